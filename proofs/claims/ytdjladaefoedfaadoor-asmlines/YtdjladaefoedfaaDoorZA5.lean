/-
  Contract of package asm's Read: the instructions of lines, in new memory.
  Contract of the document's Same: whether two lists of instructions are one; the calls whose answers the document fixes.
  The calls whose answers the document fixes, of layer 5.
-/
import Derived.Laws.OwnMore
import Derived.OwnWalk
import Derived.Test.YtdjladaefoedfaaDoorZA4
namespace Go.Proofs.YtdjladaefoedfaaDoor
open Go.RowKit Ip As Go.Lib

def csOf (l : List Ins) : List Value := l.flatMap fun x => [.int .i64 x.op, .int .i64 x.rd, .int .i64 x.rs1, .int .i64 x.rs2, .int .i64 x.imm]
theorem csOf_app (l r : List Ins) : csOf (l ++ r) = csOf l ++ csOf r := by simp [csOf]
theorem csOf_len (l : List Ins) : (csOf l).length = l.length * 5 := by
  induction l with
  | nil => rfl
  | cons p r ih => unfold csOf at ih ⊢; rw [List.flatMap_cons, List.length_append, ih]; simp; omega
theorem infoX : (Tryd.prog.info? 23).map (fun i => (i.zero, i.size, i.bytes)) = some (some (.agg #[.int .i64 0, .int .i64 0, .int .i64 0, .int .i64 0, .int .i64 0]), 5, 40) := by kernel_rfl
theorem info_partsA {P : Program} {t : TypeId} {z : Value} {s b : Nat} (h : (P.info? t).map (fun i => (i.zero, i.size, i.bytes)) = some (some z, s, b)) : ∃ i, P.info? t = some i ∧ i.zero = some z ∧ i.size = s ∧ i.bytes = b := by
  cases hi : P.info? t with
  | none => rw [hi] at h; cases h
  | some i => rw [hi] at h; simp at h; exact ⟨i, rfl, h.1, h.2.1, h.2.2⟩
theorem cell_five_new (w : World) (n : Nat) (hn : n = w.heap.size) (a b c d e : Value) (t : TypeId) : ∀ j u, [a, b, c, d, e][j]? = some u → (w.alloc (.cells #[a, b, c, d, e] t)).cell? ((⟨n, 0, none⟩ : Addr).add j) = some u := by
  subst hn
  intro j u hj
  match j, hj with
  | 0, hj => simp at hj; subst hj; simp [Addr.add]
  | 1, hj => simp at hj; subst hj; simp [Addr.add]
  | 2, hj => simp at hj; subst hj; simp [Addr.add]
  | 3, hj => simp at hj; subst hj; simp [Addr.add]
  | 4, hj => simp at hj; subst hj; simp [Addr.add]
theorem ownA_below {W W' : World} {B : Nat} {t : TypeId} {k : Nat} {v : Value} {n : Nat} {xs : List Value} (h : W.ownsRow B t k v n xs) (hb : Below W.heap.size W W') : W'.ownsRow B t k v n xs := by
  refine ⟨h.1, ?_⟩
  rcases h.2 with h0 | ⟨g, cap, cur, h1, h2, h3, h4⟩
  · exact .inl h0
  · exact .inr ⟨g, cap, cur, h1, h2, by rw [hb.block g (Array.getElem?_eq_some_iff.1 h3).1]; exact h3, h4⟩
def rdV (l : List UInt8) : List Ins := (rd l).getD []
def rdE (l : List UInt8) : Int := if (rd l).isSome = true then 0 else 50
theorem rd_noneE {l : List UInt8} (h : rd l = none) : rdV l = [] ∧ rdE l = 50 := by unfold rdV rdE; rw [h]; exact ⟨rfl, rfl⟩
theorem rd_someE {l : List UInt8} {m : List Ins} (h : rd l = some m) : rdV l = m ∧ rdE l = 0 := by unfold rdV rdE; rw [h]; exact ⟨rfl, rfl⟩
/-- What is still to be read. -/
def Rest (l : List UInt8) (vs : List Ins) (t : List UInt8) : Prop := rd l = match rd t with | none => none | some m => some (vs ++ m)
theorem Rest.none {l t : List UInt8} {vs : List Ins} (h : Rest l vs t) (ht : rd t = none) : rd l = none := by unfold Rest at h; rw [ht] at h; exact h
theorem Rest.done {l : List UInt8} {vs : List Ins} (h : Rest l vs []) : rd l = some vs := by unfold Rest at h; rw [rd_nil] at h; simpa using h
theorem Rest.bad {l t : List UInt8} {vs : List Ins} (h : Rest l vs t) (ht : t ≠ []) (hi : Lib.indexByte t 10 < 0) : rd l = Option.none := h.none (by rw [rd_step t ht, if_pos hi])
theorem Rest.no {l t : List UInt8} {vs : List Ins} (h : Rest l vs t) (ht : t ≠ []) (hi : ¬ Lib.indexByte t 10 < 0) (hp : prs (upTo 10 t) = Option.none) : rd l = Option.none := h.none (by rw [rd_step t ht, if_neg hi, hp])
theorem Rest.on {l t : List UInt8} {vs : List Ins} (h : Rest l vs t) (ht : t ≠ []) (hi : ¬ Lib.indexByte t 10 < 0) (x : Ins) (hp : prs (upTo 10 t) = some x) : Rest l (vs ++ [x]) (behind 10 t) := by
  unfold Rest at h ⊢
  rw [h, rd_step t ht, if_neg hi, hp]
  cases rd (behind 10 t) with
  | none => rfl
  | some m => simp

set_option maxHeartbeats 4000000 in
set_option maxRecDepth 100000 in
theorem read_any (s : ByteArray) (hs : s.size ≤ 100000) (w : World) (hG : Gl w) :
    Calls Tryd.prog 20 #[.string s] w fun e w' => ∃ v, e = .returned (.tuple #[v, .int .i64 (rdE s.data.toList)]) ∧ w'.ownsRow w.heap.size 23 5 v (rdV s.data.toList).length (csOf (rdV s.data.toList)) ∧ Below w.heap.size w w' := by
  have HG : Hid (Gl w) := hG
  have hz := zeroX
  obtain ⟨i0, hi, hz0, hz1, hz2⟩ := info_partsA infoX
  clear hG
  go_enter Tryd.func20, Tryd.ntmps20
  go_wp2
  go_loopg [0, 4] s.size (fun q s0 v wr => ∃ (t : List UInt8) (vs : List Ins), s0 = .string ⟨t.toArray⟩ ∧ t.length ≤ q ∧ vs.length + t.length ≤ 100000 ∧ Rest s.data.toList vs t ∧ wr.ownsRow w.heap.size 23 5 v vs.length (csOf vs) ∧ Below w.heap.size w wr)
  case atStart => exact ⟨s.data.toList, [], rfl, by rw [Lib.size_eq]; exact Nat.le_refl _, by rw [← Lib.size_eq]; simp; omega, by unfold Rest; cases rd s.data.toList <;> rfl, World.ownsRow_nil _ _ _ _, Below.refl _ _⟩
  case round =>
    obtain ⟨t, vs, rfl, htq, hvt, hR, hrow, hb⟩ := hrel
    have HR : Hid (Rest s.data.toList vs t) := hR
    clear hR
    by_cases ht : t = []
    · subst ht
      have hq : (!(([] : List UInt8) == [])) = false := rfl
      go_wp2
      go_ret2
      have e := rd_someE HR.out.done
      rw [e.1, e.2]
      exact ⟨_, rfl, hrow, hb⟩
    · have hq : t.isEmpty = false := by cases t with
        | nil => exact absurd rfl ht
        | cons _ _ => rfl
      have HT : Hid (t ≠ []) := ht
      clear ht
      go_wp2_with fail
      refine (cut_one ⟨t.toArray⟩ 10 (by show t.length ≤ _; omega) wr).mono ?_
      rintro e w1 ⟨rfl, hb1⟩
      have hrow1 := ownA_below hrow hb1
      have hb01 := hb.trans (hb1.mono hb.size)
      have hsz1 := hb1.size
      clear hb1 hrow hb
      show _
      by_cases hneg : Lib.indexByte t 10 < 0
      · have hd : decide (0 ≤ Lib.indexByte t 10) = false := decide_eq_false (by omega)
        have Hn : Hid (Lib.indexByte t 10 < 0) := hneg
        clear hneg
        go_wp2
        go_ret2
        have e := rd_noneE (HR.out.bad HT.out Hn.out)
        rw [e.1, e.2]
        exact ⟨_, rfl, World.ownsRow_nil _ _ _ _, hb01⟩
      · have hd : decide (0 ≤ Lib.indexByte t 10) = true := decide_eq_true (by omega)
        have Hn : Hid (¬ Lib.indexByte t 10 < 0) := hneg
        clear hneg
        have hul := upTo_len 10 t
        go_wp2_with fail
        refine (parse_any ⟨(upTo 10 t).toArray⟩ (by show (upTo 10 t).length ≤ _; omega) _ (HG.out.grow hb01)).mono ?_
        rintro e w2 ⟨he, hb2⟩
        have hrow2 := ownA_below hrow1 hb2
        have hb02 := hb01.trans (hb2.mono hb01.size)
        clear hb2 hrow1 hb01
        rw [show (⟨(upTo 10 t).toArray⟩ : ByteArray).data.toList = upTo 10 t from rfl] at he
        cases hp : prs (upTo 10 t) with
        | none =>
          have e := ps_none hp
          rw [e.1, e.2] at he
          subst he
          have Hp : Hid (prs (upTo 10 t) = none) := hp
          clear hp e
          go_wp2
          go_ret2
          have e := rd_noneE (HR.out.no HT.out (by have := Hn.out; omega) Hp.out)
          rw [e.1, e.2]
          exact ⟨_, rfl, World.ownsRow_nil _ _ _ _, hb02.alloc hb02.size _⟩
        | some x =>
          have e := ps_some hp
          rw [e.1, e.2] at he
          subst he
          have Hp : Hid (prs (upTo 10 t) = some x) := hp
          have hbl := (behind_lt t (by have := Hn.out; omega)).1
          clear hp e
          cases x with
          | mk op rd rs1 rs2 imm =>
          go_wp2_with (first
            | (at_builtin; refine wpList_append_own _ rfl _ _ 34 rfl w.heap.size 23 i0 (.agg #[.int .i64 0, .int .i64 0, .int .i64 0, .int .i64 0, .int .i64 0]) 5 40 Tryd.underlying34 hi hz0 hz1 hz2 rfl (by decide) _ _ _ rfl ((hrow2.alloc _).alloc _) ⟨w2.heap.size + 1, 0, none⟩ 1 1 [.int .i64 op, .int .i64 rd, .int .i64 rs1, .int .i64 rs2, .int .i64 imm] rfl rfl (cell_five_new _ _ (by simp) _ _ _ _ _ _) (by simp [Value.oneCell']) (by unfold maxLen; omega) (by omega) (by have := hb02.size; simp; omega) ?_; intro v' w3 hown' hgrow hnil'))
          go_roundg (t.length - 1)
          case measure => omega
          case rel =>
            have hb3 : Below w.heap.size w w3 := ((hb02.alloc hb02.size _).alloc (by have := hb02.size; simp; omega) _).grown hgrow (by have := hb02.size; simp; omega) (fun j e => (hrow2.lt j e).1)
            exact ⟨behind 10 t, vs ++ [⟨op, rd, rs1, rs2, imm⟩], rfl, by omega, by simp; omega, HR.out.on HT.out (by have := Hn.out; omega) _ Hp.out, by rw [csOf_app, List.length_append]; exact hown', hb3⟩
end Go.Proofs.YtdjladaefoedfaaDoor
namespace Go.Proofs.YtdjladaefoedfaaDoor
open Go.RowKit Ip As Go.Lib
open Classical

/-- A slice of instructions. -/
def SlA (W : World) (v : Value) (l : List Ins) : Prop :=
  (∃ p c, v = .slice p 0 c ∧ l = []) ∨ ∃ g o cap, v = .slice (some ⟨g, o, none⟩) l.length cap ∧ g < W.heap.size ∧ ∀ j, j < l.length * 5 → W.cell? ⟨g, o + j, none⟩ = (csOf l)[j]?
theorem SlA.below {W W' : World} {v : Value} {l : List Ins} (h : SlA W v l) (hb : Below W.heap.size W W') : SlA W' v l := by
  rcases h with h | ⟨g, o, cap, rfl, hg, hc⟩
  · exact .inl h
  · exact .inr ⟨g, o, cap, rfl, Nat.lt_of_lt_of_le hg hb.size, fun j hj => by rw [(bcell hb).1 _ _ hg]; exact hc j hj⟩
theorem SlA.of_owns {W : World} {B : Nat} {v : Value} {l : List Ins} (h : W.ownsRow B 23 5 v l.length (csOf l)) : SlA W v l := by
  rcases h.2 with ⟨rfl, hn⟩ | ⟨g, cap, cur, rfl, h2, h3, h4⟩
  · exact .inl ⟨_, _, rfl, List.eq_nil_of_length_eq_zero hn⟩
  · refine .inr ⟨g, 0, cap, rfl, (Array.getElem?_eq_some_iff.1 h3).1, fun j hj => ?_⟩
    rw [Nat.zero_add]; exact h.cellAt j hj
theorem csOf_take (l : List Ins) (n : Nat) : csOf (l.take n) = (csOf l).take (n * 5) := by
  induction l generalizing n with
  | nil => simp [csOf]
  | cons x l ih =>
    cases n with
    | zero => simp [csOf]
    | succ n =>
      have := ih n
      unfold csOf at this ⊢
      rw [List.take_succ_cons, List.flatMap_cons, List.flatMap_cons, this, show (n + 1) * 5 = [Value.int .i64 x.op, .int .i64 x.rd, .int .i64 x.rs1, .int .i64 x.rs2, .int .i64 x.imm].length + n * 5 by simp; omega, List.take_length_add_append]
theorem SlA.len {W : World} {v : Value} {l : List Ins} (h : SlA W v l) : ∃ p c, v = .slice p l.length c := by
  rcases h with ⟨p, c, rfl, rfl⟩ | ⟨g, o, cap, rfl, _⟩ <;> exact ⟨_, _, rfl⟩
theorem SlA.cut {W : World} {p : Option Addr} {n c : Nat} {l : List Ins} (h : SlA W (.slice p n c) l) (k : Nat) (hk : k ≤ n) : SlA W (.slice p k c) (l.take k) := by
  rcases h with ⟨p', c', e, rfl⟩ | ⟨g, o, cap, e, hg, hc⟩
  · injection e with e1 e2 e3
    subst e1 e2 e3
    obtain rfl : k = 0 := by omega
    exact .inl ⟨_, _, rfl, by simp⟩
  · injection e with e1 e2 e3
    subst e1 e2 e3
    have hl : (l.take k).length = k := by simp; omega
    refine .inr ⟨g, o, c, by rw [hl], hg, fun j hj => ?_⟩
    rw [hl] at hj
    rw [hc j (by omega), csOf_take, List.getElem?_take_of_lt hj]
theorem csOf_at (l : List Ins) (i : Nat) (x : Ins) (h : l[i]? = some x) : (csOf l)[i * 5]? = some (.int .i64 x.op) ∧ (csOf l)[i * 5 + 1]? = some (.int .i64 x.rd) ∧ (csOf l)[i * 5 + 2]? = some (.int .i64 x.rs1) ∧ (csOf l)[i * 5 + 3]? = some (.int .i64 x.rs2) ∧ (csOf l)[i * 5 + 4]? = some (.int .i64 x.imm) := by
  induction l generalizing i with
  | nil => simp at h
  | cons a l ih =>
    have e : csOf (a :: l) = [.int .i64 a.op, .int .i64 a.rd, .int .i64 a.rs1, .int .i64 a.rs2, .int .i64 a.imm] ++ csOf l := by simp [csOf]
    cases i with
    | zero => simp at h; subst h; rw [e]; simp
    | succ i =>
      have ih := ih i (by simpa using h)
      rw [e]
      have q : ∀ k, ([Value.int .i64 a.op, .int .i64 a.rd, .int .i64 a.rs1, .int .i64 a.rs2, .int .i64 a.imm] ++ csOf l)[(i + 1) * 5 + k]? = (csOf l)[i * 5 + k]? := fun k => by
        rw [List.getElem?_append_right (by simp; omega)]; congr 1; simp; omega
      have q0 := q 0
      simp only [Nat.add_zero] at q0
      rw [q0, q 1, q 2, q 3, q 4]; exact ih
theorem SlA.at {W : World} {g o : Nat} {l : List Ins} (hc : ∀ j, j < l.length * 5 → W.cell? ⟨g, o + j, none⟩ = (csOf l)[j]?) (i : Nat) (x : Ins) (h : l[i]? = some x) :
    W.cell? ⟨g, o + i * 5, none⟩ = some (.int .i64 x.op) ∧ W.cell? ⟨g, o + i * 5 + 1, none⟩ = some (.int .i64 x.rd) ∧ W.cell? ⟨g, o + i * 5 + 2, none⟩ = some (.int .i64 x.rs1) ∧ W.cell? ⟨g, o + i * 5 + 3, none⟩ = some (.int .i64 x.rs2) ∧ W.cell? ⟨g, o + i * 5 + 4, none⟩ = some (.int .i64 x.imm) := by
  have hi : i < l.length := (List.getElem?_eq_some_iff.1 h).1
  obtain ⟨a, b, c, d, e⟩ := csOf_at l i x h
  refine ⟨(hc _ (by omega)).trans a, ?_, ?_, ?_, ?_⟩
  · rw [Nat.add_assoc]; exact (hc _ (by omega)).trans b
  · rw [Nat.add_assoc]; exact (hc _ (by omega)).trans c
  · rw [Nat.add_assoc]; exact (hc _ (by omega)).trans d
  · rw [Nat.add_assoc]; exact (hc _ (by omega)).trans e
theorem take_step {la lb : List Ins} {i : Nat} {x : Ins} (h : la.take i = lb.take i) (ha : la[i]? = some x) (hb : lb[i]? = some x) : la.take (i + 1) = lb.take (i + 1) := by
  rw [List.take_add_one, List.take_add_one, h, ha, hb]

set_option maxHeartbeats 4000000 in
set_option maxRecDepth 100000 in
theorem same_core (la lb : List Ins) (g o c g' o' c' : Nat) (hll : la.length = lb.length) (hlb : la.length ≤ 1000000) (w : World)
    (ha : ∀ j, j < la.length * 5 → w.cell? ⟨g, o + j, none⟩ = (csOf la)[j]?) (hb : ∀ j, j < lb.length * 5 → w.cell? ⟨g', o' + j, none⟩ = (csOf lb)[j]?) :
    Calls Tryd.prog 22 #[.slice (some ⟨g, o, none⟩) la.length c, .slice (some ⟨g', o', none⟩) lb.length c'] w fun e w' => e = .returned (.bool (decide (la = lb))) ∧ Below w.heap.size w w' := by
  have HA : Hid (∀ j, j < la.length * 5 → w.cell? ⟨g, o + j, none⟩ = (csOf la)[j]?) := ha
  have HB : Hid (∀ j, j < lb.length * 5 → w.cell? ⟨g', o' + j, none⟩ = (csOf lb)[j]?) := hb
  have hneq := neqX
  rw [← hll]
  clear ha hb
  go_enter Tryd.func22, Tryd.ntmps22
  go_wp2
  go_loopg [5] la.length (fun q i wr => ∃ k : Nat, k + q = la.length ∧ i = .int .i64 (k : Int) ∧ la.take k = lb.take k ∧ ∃ n, wr = w.drewN n)
  case atStart => exact ⟨0, by omega, rfl, by simp, 0, rfl⟩
  case round =>
    obtain ⟨k, hkq, rfl, htk, n, rfl⟩ := hrel
    have HT : Hid (la.take k = lb.take k) := htk
    clear htk
    cases gk with
    | zero =>
      have hk : ¬ ((k : Int) < (la.length : Int)) := by omega
      go_wp2
      go_ret
      exact ⟨ret_bool (decide_eq_true (by
        have := HT.out
        rwa [List.take_of_length_le (by omega), List.take_of_length_le (by omega)] at this)).symm, below_drewN (Below.refl _ _) _⟩
    | succ q =>
      have hk : ((k : Int) < (la.length : Int)) := by omega
      have hk0 : (0 : Int) ≤ (k : Int) := by omega
      have hwk : IntKind.i64.wrap ((k : Int) + 1) = (k : Int) + 1 := wr64 (by omega) (by omega)
      obtain ⟨x, hx⟩ : ∃ x, la[k]? = some x := ⟨la[k]'(by omega), List.getElem?_eq_getElem (by omega)⟩
      obtain ⟨y, hy⟩ : ∃ y, lb[k]? = some y := ⟨lb[k]'(by omega), List.getElem?_eq_getElem (by omega)⟩
      obtain ⟨a0, a1, a2, a3, a4⟩ := SlA.at HA.out k x hx
      obtain ⟨b0, b1, b2, b3, b4⟩ := SlA.at HB.out k y hy
      have Hx : Hid (la[k]? = some x) := hx
      have Hy : Hid (lb[k]? = some y) := hy
      clear hx hy
      cases x with
      | mk op rd rs1 rs2 imm =>
      cases y with
      | mk op' rd' rs1' rs2' imm' =>
      simp only [] at a0 a1 a2 a3 a4 b0 b1 b2 b3 b4
      go_wp2
      go_region
      go_wp2
      · have hd : (!sameX op rd rs1 rs2 imm op' rd' rs1' rs2' imm') = true := by assumption
        go_ret
        refine ⟨ret_bool (decide_eq_false (fun e => ?_)).symm, below_drewN (Below.refl _ _) _⟩
        have := Hx.out; rw [e, Hy.out] at this
        injection this with this
        injection this with e1 e2 e3 e4 e5
        subst e1 e2 e3 e4 e5
        unfold sameX at hd; simp at hd
      · have hd : (!sameX op rd rs1 rs2 imm op' rd' rs1' rs2' imm') = false := by assumption
        go_roundg q
        case measure => omega
        case rel =>
          have he : Ins.mk op rd rs1 rs2 imm = ⟨op', rd', rs1', rs2', imm'⟩ := by
            unfold sameX at hd; simp at hd
            obtain ⟨e1, e2, e3, e4, e5⟩ := hd
            subst e1 e2 e3 e4 e5; rfl
          exact ⟨k + 1, by omega, by simp, take_step HT.out Hx.out (by rw [he]; exact Hy.out), n + 1, rfl⟩
theorem same_len (p p' : Option Addr) (n n' c c' : Nat) (h : n ≠ n') (w : World) : Calls Tryd.prog 22 #[.slice p n c, .slice p' n' c'] w fun e w' => e = .returned (.bool false) ∧ w' = w := by
  have hq : ((n : Int) != (n' : Int)) = true := bne_iff_ne.2 (by omega)
  go_enter Tryd.func22, Tryd.ntmps22
  go_wp2
  go_ret
  exact ⟨rfl, rfl⟩
theorem same_zero (p p' : Option Addr) (c c' : Nat) (w : World) : Calls Tryd.prog 22 #[.slice p 0 c, .slice p' 0 c'] w fun e w' => e = .returned (.bool true) ∧ w' = w := by
  go_enter Tryd.func22, Tryd.ntmps22
  go_wp2
  go_loopw [5] (fun i wr => i = .int .i64 0 ∧ wr = w) (fun _ _ => 0)
  case atStart => exact ⟨rfl, rfl⟩
  case round =>
    obtain ⟨rfl, rfl⟩ := hrel
    go_wp2
    go_ret
    exact ⟨rfl, rfl⟩
theorem same_any (a b : Value) (la lb : List Ins) (w : World) (ha : SlA w a la) (hb : SlA w b lb) (hl : la.length ≤ 1000000) :
    Calls Tryd.prog 22 #[a, b] w fun e w' => e = .returned (.bool (decide (la = lb))) ∧ Below w.heap.size w w' := by
  obtain ⟨p, c, rfl⟩ : ∃ p c, a = .slice p la.length c := by
    rcases ha with ⟨p, c, rfl, rfl⟩ | ⟨g, o, cap, rfl, _⟩ <;> exact ⟨_, _, rfl⟩
  obtain ⟨p', c', rfl⟩ : ∃ p c, b = .slice p lb.length c := by
    rcases hb with ⟨p, c, rfl, rfl⟩ | ⟨g, o, cap, rfl, _⟩ <;> exact ⟨_, _, rfl⟩
  by_cases hll : la.length = lb.length
  · by_cases h0 : la.length = 0
    · have e1 : la = [] := List.eq_nil_of_length_eq_zero h0
      have e2 : lb = [] := List.eq_nil_of_length_eq_zero (by omega)
      subst e1 e2
      exact (same_zero p p' c c' w).mono fun e w' ⟨he, hw⟩ => ⟨he, by rw [hw]; exact Below.refl _ _⟩
    · rcases ha with ⟨_, _, _, e⟩ | ⟨g, o, cap, e, hg, hc⟩
      · subst e; exact absurd rfl h0
      · rcases hb with ⟨_, _, _, e'⟩ | ⟨g', o', cap', e', hg', hc'⟩
        · subst e'; exact absurd hll h0
        · rw [e, e']; exact same_core la lb g o cap g' o' cap' hll hl w hc hc'
  · rw [decide_eq_false (fun e => hll (by rw [e]))]
    exact (same_len p p' _ _ c c' hll w).mono fun e w' ⟨he, hw⟩ => ⟨he, by rw [hw]; exact Below.refl _ _⟩
end Go.Proofs.YtdjladaefoedfaaDoor
namespace Go.Proofs.YtdjladaefoedfaaDoor
open Go.RowKit Ip As Go.Lib
open Classical

theorem hideA {p : Prop} (h : p) : Hid p := h
theorem itoa_one (u : Nat) (h : u < 10) : Lib.itoa (u : Int) = [UInt8.ofNat (48 + u)] := by rw [itoa_pos _ (by omega)]; rw [show (u : Int).toNat = u by omega]; exact dd_small h
theorem itoa_m (u : Nat) (h : u < 10) (h0 : 1 ≤ u) : Lib.itoa (-(u : Int)) = [45, UInt8.ofNat (48 + u)] := by rw [itoa_neg _ (by omega)]; simp [dd_small h]
theorem i1 : Lib.itoa 1 = [49] := itoa_one 1 (by decide)
theorem i2 : Lib.itoa 2 = [50] := itoa_one 2 (by decide)
theorem i3 : Lib.itoa 3 = [51] := itoa_one 3 (by decide)
theorem i4 : Lib.itoa 4 = [52] := itoa_one 4 (by decide)
theorem i5 : Lib.itoa 5 = [53] := itoa_one 5 (by decide)
theorem m4 : Lib.itoa (-4) = [45, 52] := itoa_m 4 (by decide) (by decide)
theorem m5 : Lib.itoa (-5) = [45, 53] := itoa_m 5 (by decide) (by decide)
theorem txt_1 : txt ⟨18, 1, 2, 0, -5⟩ = [97, 100, 100, 105, 32, 120, 49, 44, 32, 120, 50, 44, 32, 45, 53] := by
  have hs : sh 18 = 73 := by decide +kernel
  have hn : name 18 = [97, 100, 100, 105] := by decide +kernel
  unfold txt As.prts; simp [hs, hn, join3, rg, i1, i2, m5]
theorem txt_2 : txt ⟨17, 0, 2, 1, -4⟩ = [115, 119, 32, 120, 49, 44, 32, 45, 52, 40, 120, 50, 41] := by
  have hs : sh 17 = 83 := by decide +kernel
  have hn : name 17 = [115, 119] := by decide +kernel
  unfold txt As.prts; simp [hs, hn, join2, rg, plc, i1, i2, m4]
theorem txt_3 : txt ⟨12, 1, 2, 0, 4⟩ = [108, 119, 32, 120, 49, 44, 32, 52, 40, 120, 50, 41] := by
  have hs : sh 12 = 77 := by decide +kernel
  have hn : name 12 = [108, 119] := by decide +kernel
  unfold txt As.prts; simp [hs, hn, join2, rg, plc, i1, i2, i4]
theorem txt_4 : txt ⟨27, 1, 2, 3, 0⟩ = [97, 100, 100, 32, 120, 49, 44, 32, 120, 50, 44, 32, 120, 51] := by
  have hs : sh 27 = 82 := by decide +kernel
  have hn : name 27 = [97, 100, 100] := by decide +kernel
  unfold txt As.prts; simp [hs, hn, join3, rg, i1, i2, i3]
theorem txt_5 : txt ⟨45, 0, 0, 0, 0⟩ = [101, 99, 97, 108, 108] := by
  have hs : sh 45 = 69 := by decide +kernel
  have hn : name 45 = [101, 99, 97, 108, 108] := by decide +kernel
  unfold txt As.prts; simp [hs, hn]
theorem txt_6 : txt ⟨0, 1, 0, 0, 5⟩ = [108, 117, 105, 32, 120, 49, 44, 32, 53] := by
  have hs : sh 0 = 85 := by decide +kernel
  have hn : name 0 = [108, 117, 105] := by decide +kernel
  unfold txt As.prts; simp [hs, hn, join2, rg, i1, i5]
theorem ok_1 : Ins.ok ⟨18, 1, 2, 0, -5⟩ = true := by decide +kernel
theorem ok_2 : Ins.ok ⟨17, 0, 2, 1, -4⟩ = true := by decide +kernel
theorem ok_3 : Ins.ok ⟨12, 1, 2, 0, 4⟩ = true := by decide +kernel
theorem ok_5 : Ins.ok ⟨45, 0, 0, 0, 0⟩ = true := by decide +kernel
theorem ok_6 : Ins.ok ⟨0, 1, 0, 0, 5⟩ = true := by decide +kernel
theorem ok_7 : Ins.ok ⟨47, 0, 0, 0, 0⟩ = false := by decide +kernel
theorem print_yes (x : Ins) (l : List UInt8) (hk : x.ok = true) (ht : txt x = l) (w : World) (hG : Gl w) : Calls Tryd.prog 9 #[x.val] w fun e w' => e = .returned (.tuple #[.string ⟨l.toArray⟩, .int .i64 0]) ∧ Below w.heap.size w w' := by
  have e1 : prV x = l := by unfold prV; rw [hk, ← ht]; rfl
  have e2 : prE x = 0 := by unfold prE; rw [hk]; rfl
  have := print_any x w hG; rwa [e1, e2] at this
theorem print_no (x : Ins) (hk : x.ok = false) (w : World) (hG : Gl w) : Calls Tryd.prog 9 #[x.val] w fun e w' => e = .returned (.tuple #[.string ⟨#[]⟩, .int .i64 20]) ∧ Below w.heap.size w w' := by
  have e1 : prV x = [] := by unfold prV; rw [hk]; rfl
  have e2 : prE x = 20 := by unfold prE; rw [hk]; rfl
  have := print_any x w hG; rwa [e1, e2] at this
theorem parse_3 (w : World) (hG : Gl w) : Calls Tryd.prog 16 #[.string ⟨#[108, 119, 32, 120, 49, 44, 32, 52, 40, 120, 50, 41]⟩] w fun e w' => e = .returned (.tuple #[.agg #[.int .i64 12, .int .i64 1, .int .i64 2, .int .i64 0, .int .i64 4], .int .i64 0]) ∧ Below w.heap.size w w' := by
  have h := prs_txt ok_3; rw [txt_3] at h
  have e := ps_some h
  have := parse_any ⟨#[108, 119, 32, 120, 49, 44, 32, 52, 40, 120, 50, 41]⟩ (by decide +kernel) w hG
  rw [show (⟨#[108, 119, 32, 120, 49, 44, 32, 52, 40, 120, 50, 41]⟩ : ByteArray).data.toList = [108, 119, 32, 120, 49, 44, 32, 52, 40, 120, 50, 41] from rfl, e.1, e.2] at this
  exact this
theorem parse_4 (w : World) (hG : Gl w) : Calls Tryd.prog 16 #[.string ⟨#[97, 100, 100, 32, 120, 49, 44, 32, 120, 50, 44, 32, 120, 48, 51]⟩] w fun e w' => e = .returned (.tuple #[.agg Z5, .int .i64 50]) ∧ Below w.heap.size w w' := by
  have h : prs [97, 100, 100, 32, 120, 49, 44, 32, 120, 50, 44, 32, 120, 48, 51] = none := by
    have hg : gs (byV (upTo 32 [97, 100, 100, 32, 120, 49, 44, 32, 120, 50, 44, 32, 120, 48, 51])) (behind 32 [97, 100, 100, 32, 120, 49, 44, 32, 120, 50, 44, 32, 120, 48, 51]) = ⟨27, 1, 2, 3, 0⟩ := Ins.same (by decide +kernel)
    unfold prs; rw [hg, txt_4]
    split
    · rfl
    · rw [if_neg (fun h => absurd h.2 (by decide))]
  have e := ps_none h
  have := parse_any ⟨#[97, 100, 100, 32, 120, 49, 44, 32, 120, 50, 44, 32, 120, 48, 51]⟩ (by decide +kernel) w hG
  rw [show (⟨#[97, 100, 100, 32, 120, 49, 44, 32, 120, 50, 44, 32, 120, 48, 51]⟩ : ByteArray).data.toList = [97, 100, 100, 32, 120, 49, 44, 32, 120, 50, 44, 32, 120, 48, 51] from rfl, e.1, e.2] at this
  exact this
abbrev L2 : List Ins := [⟨45, 0, 0, 0, 0⟩, ⟨0, 1, 0, 0, 5⟩]
theorem read_2 (w : World) (hG : Gl w) : Calls Tryd.prog 20 #[.string ⟨#[101, 99, 97, 108, 108, 10, 108, 117, 105, 32, 120, 49, 44, 32, 53, 10]⟩] w fun e w' => ∃ v, e = .returned (.tuple #[v, .int .i64 0]) ∧ SlA w' v L2 ∧ Below w.heap.size w w' := by
  have h : rd [101, 99, 97, 108, 108, 10, 108, 117, 105, 32, 120, 49, 44, 32, 53, 10] = some L2 := by
    have := rd_flat L2 [] (by intro x hx; rcases List.mem_cons.1 hx with rfl | hx; exact ok_5; rw [List.mem_singleton] at hx; rw [hx]; exact ok_6)
    rw [rd_nil] at this
    simpa [flat, txt_5, txt_6] using this
  have e := rd_someE h
  have := read_any ⟨#[101, 99, 97, 108, 108, 10, 108, 117, 105, 32, 120, 49, 44, 32, 53, 10]⟩ (by decide +kernel) w hG
  rw [show (⟨#[101, 99, 97, 108, 108, 10, 108, 117, 105, 32, 120, 49, 44, 32, 53, 10]⟩ : ByteArray).data.toList = [101, 99, 97, 108, 108, 10, 108, 117, 105, 32, 120, 49, 44, 32, 53, 10] from rfl, e.1, e.2] at this
  exact this.mono fun e w' ⟨v, he, ho, hb⟩ => ⟨v, he, SlA.of_owns ho, hb⟩
theorem by_lit (s : ByteArray) (v : Int) (h : byV s.data.toList = v) (w : World) (hG : Gl w) : Calls Tryd.prog 14 #[.string s] w fun e w' => e = .returned (.int .i64 v) ∧ Below w.heap.size w w' :=
  (by_any s w hG).mono fun e w' ⟨he, hw⟩ => ⟨by rw [he, h], by rw [hw]; exact Below.refl _ _⟩
theorem name_no1 (w : World) (hG : Gl w) : Calls Tryd.prog 12 #[.int .i64 (-1)] w fun e w' => e = .returned (.string ⟨#[]⟩) ∧ Below w.heap.size w w' :=
  (name_any (-1) w hG).mono fun e w' ⟨he, hw⟩ => ⟨he, by rw [hw]; exact Below.refl _ _⟩

/-- While fixed is at work: the instruction that was parsed. -/
structure FxAt (w : World) (n : Nat) (W : World) : Prop where
  low : Below w.heap.size w W
  box : W.heap[n]? = some (.cells #[.int .i64 12, .int .i64 1, .int .i64 2, .int .i64 0, .int .i64 4] 23 (0, 0))
theorem FxAt.below {w W W' : World} {n : Nat} (h : FxAt w n W) (hb : Below W.heap.size W W') : FxAt w n W' :=
  ⟨h.low.trans (hb.mono h.low.size), by rw [hb.block _ (Array.getElem?_eq_some_iff.1 h.box).1]; exact h.box⟩
theorem FxAt.alloc {w W : World} {n : Nat} (h : FxAt w n W) (o : Obj) : FxAt w n (W.alloc o) := h.below ((Below.refl _ _).alloc (Nat.le_refl _) _)
theorem FxAt.start {w W : World} (h : Below w.heap.size w W) : FxAt w W.heap.size (W.alloc (.cells #[.int .i64 12, .int .i64 1, .int .i64 2, .int .i64 0, .int .i64 4] 23)) := ⟨h.alloc h.size _, heap_alloc_new _ _⟩
theorem SlA.lit (W : World) : SlA (W.alloc (.cells #[.int .i64 45, .int .i64 0, .int .i64 0, .int .i64 0, .int .i64 0, .int .i64 0, .int .i64 1, .int .i64 0, .int .i64 0, .int .i64 5] 23)) (.slice (some ⟨W.heap.size, 0, none⟩) 2 2) L2 := by
  refine .inr ⟨W.heap.size, 0, 2, rfl, by simp, fun j hj => ?_⟩
  simp only [World.cell?, Nat.zero_add]
  rw [heap_alloc_new]
  have hj : j < 10 := hj
  match j, hj with
  | 0, _ => rfl
  | 1, _ => rfl
  | 2, _ => rfl
  | 3, _ => rfl
  | 4, _ => rfl
  | 5, _ => rfl
  | 6, _ => rfl
  | 7, _ => rfl
  | 8, _ => rfl
  | 9, _ => rfl
set_option maxHeartbeats 4000000 in
set_option maxRecDepth 100000 in
theorem fixed5_any (w : World) (hG : Gl w) : Calls Tryd.prog 11 #[] w fun e w' => e = .returned (.bool true) ∧ Below w.heap.size w w' := by
  have HG : Hid (Gl w) := hG
  have hB0 : Below w.heap.size w w := Below.refl _ _
  have hz := zeroX
  have hql := eqlX
  clear hG
  go_enter Tryd.func11, Tryd.ntmps11
  go_wp2_with fail
  refine (print_yes ⟨18, 1, 2, 0, -5⟩ _ ok_1 txt_1 _ HG.out).mono ?_
  rintro e w1 ⟨rfl, hb⟩
  have hB1 := hB0.trans (hb.mono hB0.size)
  clear hb hB0
  go_wp2_with fail
  refine (print_yes ⟨17, 0, 2, 1, -4⟩ _ ok_2 txt_2 _ (HG.out.grow hB1)).mono ?_
  rintro e w2 ⟨rfl, hb⟩
  have hB2 := hB1.trans (hb.mono hB1.size)
  clear hb hB1
  go_wp2_with fail
  refine (parse_3 _ (HG.out.grow hB2)).mono ?_
  rintro e w3 ⟨rfl, hb⟩
  have hB3 := hB2.trans (hb.mono hB2.size)
  clear hb hB2
  go_wp2_with fail
  have F3 := FxAt.start hB3
  refine (parse_4 _ (HG.out.grow F3.low)).mono ?_
  rintro e w4 ⟨rfl, hb⟩
  have F4 := F3.below hb
  clear hb hB3
  go_wp2_with fail
  refine (print_no ⟨47, 0, 0, 0, 0⟩ ok_7 _ (HG.out.grow (F4.alloc _).low)).mono ?_
  rintro e w5 ⟨rfl, hb⟩
  have F5 := (F4.alloc _).below hb
  clear hb
  go_wp2_with fail
  refine (read_2 _ (HG.out.grow F5.low)).mono ?_
  rintro e w6 ⟨v, rfl, hsl, hb⟩
  have F6 := F5.below hb
  have hx6 := F6.box
  have HS : Hid (SlA w6 v L2) := hsl
  clear hb hsl F5 F4 F3
  have c0 : w6.cell? ⟨w3.heap.size, 0, none⟩ = some (.int .i64 12) := by simp only [World.cell?, hx6]; rfl
  have c1 : w6.cell? ⟨w3.heap.size, 1, none⟩ = some (.int .i64 1) := by simp only [World.cell?, hx6]; rfl
  have c2 : w6.cell? ⟨w3.heap.size, 2, none⟩ = some (.int .i64 2) := by simp only [World.cell?, hx6]; rfl
  have c3 : w6.cell? ⟨w3.heap.size, 3, none⟩ = some (.int .i64 0) := by simp only [World.cell?, hx6]; rfl
  have c4 : w6.cell? ⟨w3.heap.size, 4, none⟩ = some (.int .i64 4) := by simp only [World.cell?, hx6]; rfl
  clear hx6
  go_wp2_with fail
  refine (same_any v _ L2 L2 _ (HS.out.below ((Below.refl _ _).alloc (Nat.le_refl _) _)) (SlA.lit w6) (by decide)).mono ?_
  rintro e w7 ⟨he, hb⟩
  rw [decide_eq_true rfl] at he
  subst he
  have F7 := (F6.alloc _).below hb
  clear hb c0 c1 c2 c3 c4 F6
  go_wp2_with fail
  refine (by_lit _ 44 (by decide +kernel) _ (HG.out.grow F7.low)).mono ?_
  rintro e w8 ⟨rfl, hb⟩
  have F8 := F7.below hb
  clear hb F7
  go_wp2_with fail
  refine (by_lit _ (-1) (by decide +kernel) _ (HG.out.grow F8.low)).mono ?_
  rintro e w9 ⟨rfl, hb⟩
  have F9 := F8.below hb
  clear hb F8
  go_wp2_with fail
  refine (name_no1 _ (HG.out.grow F9.low)).mono ?_
  rintro e wa ⟨rfl, hb⟩
  have Fa := (F9.below hb).low
  clear hb F9
  go_wp2_with fail
  go_ret
  exact ⟨rfl, Fa⟩
end Go.Proofs.YtdjladaefoedfaaDoor
