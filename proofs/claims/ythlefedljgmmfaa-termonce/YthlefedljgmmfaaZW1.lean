/-
  Terms, plainly: a list in which each stands once; what is made, what a term comes to, which registers it needs. No program in sight.
  What the laws of layer 10 ask of package term: the contracts of its calls over some way to lie in memory (a way: which terms, and in which blocks), as one proposition.
-/

import Derived.Test.YthlefedljgmmfaaZC1
import Derived.Test.YthlefedljgmmfaaZa
set_option linter.unusedVariables false
namespace Go.Proofs.Ythlefedljgmmfaa
namespace Tm

structure Trm where
  kind : Int
  v : BitVec 32
  op : Int
  a : Int
  b : Int
def same (s t : Trm) : Bool := decide (s.kind = t.kind) && (decide (s.v = t.v) && (decide (s.op = t.op) && (decide (s.a = t.a) && decide (s.b = t.b))))
theorem same_iff {s t : Trm} : same s t = true ↔ s = t := by
  unfold same
  simp only [Bool.and_eq_true, decide_eq_true_eq]
  constructor
  · rintro ⟨h1, h2, h3, h4, h5⟩
    obtain ⟨k, v, o, a, b⟩ := s
    obtain ⟨k', v', o', a', b'⟩ := t
    simp only at h1 h2 h3 h4 h5
    rw [h1, h2, h3, h4, h5]
  · rintro rfl; exact ⟨rfl, rfl, rfl, rfl, rfl⟩
theorem same_refl (t : Trm) : same t t = true := same_iff.2 rfl
theorem same_no {s t : Trm} (h : s ≠ t) : same s t = false := by
  cases e : same s t with
  | false => rfl
  | true => exact absurd (same_iff.1 e) h
/-- A term's place; behind all, if it has none. -/
def findT : List Trm → Trm → Nat
  | [], _ => 0
  | s :: L, t => if same s t = true then 0 else findT L t + 1
def addT (L : List Trm) (t : Trm) : List Trm := if findT L t < L.length then L else L ++ [t]
theorem find_le (L : List Trm) (t : Trm) : findT L t ≤ L.length := by
  induction L with
  | nil => exact Nat.le_refl _
  | cons s L ih =>
    unfold findT
    split
    · omega
    · rw [List.length_cons]; omega
theorem find_get {L : List Trm} {t : Trm} (h : findT L t < L.length) : L[findT L t]? = some t := by
  induction L with
  | nil => simp at h
  | cons s L ih =>
    unfold findT at h ⊢
    split
    · rename_i e; rw [same_iff.1 e]; rfl
    · rename_i e
      rw [if_neg e, List.length_cons] at h
      rw [List.getElem?_cons_succ]; exact ih (by omega)
theorem find_before {L : List Trm} {t : Trm} {k : Nat} {s : Trm} (hk : L[k]? = some s) (h : k < findT L t) : s ≠ t := by
  induction L generalizing k with
  | nil => simp at hk
  | cons c L ih =>
    unfold findT at h
    split at h
    · omega
    · rename_i e
      cases k with
      | zero => simp at hk; subst hk; exact fun c => e (same_iff.2 c)
      | succ k => exact ih (by simpa using hk) (by omega)
theorem find_mem {L : List Trm} {t : Trm} (h : t ∈ L) : findT L t < L.length := by
  by_cases hl : findT L t < L.length
  · exact hl
  · have := find_le L t
    obtain ⟨k, hk⟩ := List.getElem?_of_mem h
    have hkl := (List.getElem?_eq_some_iff.1 hk).1
    exact absurd rfl (find_before hk (by omega))
theorem find_put {L : List Trm} (hn : L.Nodup) {t : Trm} {k : Nat} (h : L[k]? = some t) : findT L t = k := by
  have hm := find_mem (List.mem_of_getElem? h)
  have h2 := find_get hm
  have hkl := (List.getElem?_eq_some_iff.1 h).1
  rw [List.getElem?_eq_getElem hm] at h2
  rw [List.getElem?_eq_getElem hkl] at h
  exact (List.getElem_inj hn).1 ((Option.some.inj h2).trans (Option.some.inj h).symm)
theorem add_old {L : List Trm} (t : Trm) {k : Nat} (h : k < L.length) : (addT L t)[k]? = L[k]? := by
  unfold addT
  split
  · rfl
  · rw [List.getElem?_append_left h]
theorem add_at (L : List Trm) (t : Trm) : (addT L t)[findT L t]? = some t := by
  unfold addT
  split
  · rename_i h; exact find_get h
  · rename_i h
    have := find_le L t
    rw [show findT L t = L.length by omega, List.getElem?_append_right (Nat.le_refl _), Nat.sub_self]; rfl
theorem add_len (L : List Trm) (t : Trm) : L.length ≤ (addT L t).length ∧ (addT L t).length ≤ L.length + 1 := by
  unfold addT
  split
  · omega
  · rw [List.length_append, List.length_singleton]; omega
theorem add_in (L : List Trm) (t : Trm) : findT L t < (addT L t).length := (List.getElem?_eq_some_iff.1 (add_at L t)).1
theorem add_nodup {L : List Trm} (hn : L.Nodup) (t : Trm) : (addT L t).Nodup := by
  unfold addT
  split
  · exact hn
  · rename_i h
    refine List.nodup_append.2 ⟨hn, by simp, fun a ha b hb => ?_⟩
    rw [List.mem_singleton] at hb
    subst hb
    exact fun e => h (find_mem (e ▸ ha))
theorem add_mem {L : List Trm} {s t : Trm} (h : s ∈ addT L t) : s ∈ L ∨ s = t := by
  unfold addT at h
  split at h
  · exact .inl h
  · rcases List.mem_append.1 h with h | h
    · exact .inl h
    · exact .inr (List.mem_singleton.1 h)
theorem add_same {L : List Trm} {t : Trm} (h : t ∈ L) : addT L t = L := by unfold addT; rw [if_pos (find_mem h)]
def constT (v : BitVec 32) : Trm := ⟨0, v, 0, 0, 0⟩
def regT (r : Int) : Trm := if r = 0 then constT (BitVec.ofNat 32 0) else ⟨1, BitVec.ofInt 32 r, 0, 0, 0⟩
def opT (op a b : Int) : Trm := ⟨2, (BitVec.ofNat 32 0), op, a, b⟩
def regE (r : Int) : Nat := if r < 0 ∨ 31 < r then 1 else 0
def opE (L : List Trm) (op a b : Int) : Nat := if a < 0 ∨ (L.length : Int) ≤ a ∨ b < 0 ∨ (L.length : Int) ≤ b then 100 else if op < 27 ∨ 44 < op then 1 else 0
/-- What stands at a place is a word, a register but the first, or a known reckoning of two earlier ones. -/
def Fine (i : Nat) (t : Trm) : Prop := (∃ v, t = constT v) ∨ (∃ r : Nat, 0 < r ∧ r < 32 ∧ t = regT (r : Int)) ∨ (∃ (op : Int) (a b : Nat), 27 ≤ op ∧ op ≤ 44 ∧ a < i ∧ b < i ∧ t = opT op (a : Int) (b : Int))
theorem Fine.mono {i j : Nat} {t : Trm} (h : Fine i t) (hij : i ≤ j) : Fine j t := by
  rcases h with h | h | ⟨op, a, b, h1, h2, h3, h4, h5⟩
  · exact .inl h
  · exact .inr (.inl h)
  · exact .inr (.inr ⟨op, a, b, h1, h2, by omega, by omega, h5⟩)
structure OkT (L : List Trm) : Prop where
  once : L.Nodup
  fine : ∀ (i : Nat) (t : Trm), L[i]? = some t → Fine i t
theorem ok_nil : OkT [] := ⟨List.nodup_nil, fun i t h => by simp at h⟩
theorem OkT.add {L : List Trm} (h : OkT L) {t : Trm} (ht : Fine L.length t) : OkT (addT L t) := by
  refine ⟨add_nodup h.once t, fun i s hs => ?_⟩
  by_cases hi : i < L.length
  · rw [add_old t hi] at hs; exact h.fine i s hs
  · unfold addT at hs
    split at hs
    · have := (List.getElem?_eq_some_iff.1 hs).1; omega
    · rw [List.getElem?_append_right (by omega)] at hs
      have := (List.getElem?_eq_some_iff.1 hs).1
      simp at this
      obtain rfl : i = L.length := by omega
      rw [Nat.sub_self] at hs
      simp at hs
      subst hs
      exact ht
theorem fine_const (i : Nat) (v : BitVec 32) : Fine i (constT v) := .inl ⟨v, rfl⟩
theorem fine_reg (i : Nat) {r : Int} (h : regE r = 0) : Fine i (regT r) := by
  unfold regE at h
  split at h
  · cases h
  · rename_i hr
    by_cases h0 : r = 0
    · subst h0; exact .inl ⟨(BitVec.ofNat 32 0), by unfold regT; rw [if_pos rfl]⟩
    · exact .inr (.inl ⟨r.toNat, by omega, by omega, by rw [Int.toNat_of_nonneg (by omega)]⟩)
theorem op_parts {L : List Trm} {op a b : Int} (h : opE L op a b = 0) : (∃ x y : Nat, a = x ∧ b = y ∧ x < L.length ∧ y < L.length) ∧ 27 ≤ op ∧ op ≤ 44 := by
  unfold opE at h
  split at h
  · cases h
  · split at h
    · cases h
    · rename_i h1 h2
      exact ⟨⟨a.toNat, b.toNat, by omega, by omega, by omega, by omega⟩, by omega, by omega⟩
theorem fine_op {L : List Trm} {op a b : Int} (h : opE L op a b = 0) : Fine L.length (opT op a b) := by
  obtain ⟨⟨x, y, rfl, rfl, hx, hy⟩, h1, h2⟩ := op_parts h
  exact .inr (.inr ⟨op, x, y, h1, h2, hx, hy, rfl⟩)

/-! ### a script -/
structure Opc where
  kind : Int
  v : BitVec 32
  op : Int
  a : Int
  b : Int
def stepL (L : List Trm) (o : Opc) : List Trm :=
  if o.kind = 0 then addT L (constT o.v)
  else if o.kind = 1 then (if regE o.a = 0 then addT L (regT o.a) else L)
  else if o.kind = 2 then (if opE L o.op o.a o.b = 0 then addT L (opT o.op o.a o.b) else L)
  else L
def runL (s : List Opc) : List Trm := s.foldl stepL []
theorem OkT.step {L : List Trm} (h : OkT L) (o : Opc) : OkT (stepL L o) := by
  unfold stepL
  split
  · exact h.add (fine_const _ _)
  · split
    · split
      · rename_i e; exact h.add (fine_reg _ e)
      · exact h
    · split
      · split
        · rename_i e; exact h.add (fine_op e)
        · exact h
      · exact h
theorem step_len (L : List Trm) (o : Opc) : (stepL L o).length ≤ L.length + 1 := by
  unfold stepL
  split
  · exact (add_len _ _).2
  · split
    · split
      · exact (add_len _ _).2
      · omega
    · split
      · split
        · exact (add_len _ _).2
        · omega
      · omega
theorem run_take (s : List Opc) {k : Nat} {o : Opc} (h : s[k]? = some o) : runL (s.take (k + 1)) = stepL (runL (s.take k)) o := by
  unfold runL
  rw [List.take_add_one, h, Option.toList_some, List.foldl_append]; rfl
theorem run_ok (s : List Opc) : OkT (runL s) ∧ (runL s).length ≤ s.length := by
  have h : ∀ k, k ≤ s.length → OkT (runL (s.take k)) ∧ (runL (s.take k)).length ≤ k := by
    intro k
    induction k with
    | zero => intro _; rw [List.take_zero]; exact ⟨ok_nil, Nat.le_refl _⟩
    | succ k ih =>
      intro hk
      have h1 := ih (by omega)
      have hs : s[k]? = some s[k] := List.getElem?_eq_getElem (by omega)
      rw [run_take s hs]
      have := step_len (runL (s.take k)) s[k]
      exact ⟨h1.1.step _, by omega⟩
  have := h s.length (Nat.le_refl _)
  rwa [List.take_length] at this

/-! ### what terms come to, and need -/
def valT (x : Nat → BitVec 32) (vs : List (BitVec 32)) (t : Trm) : BitVec 32 := if t.kind = 1 then x t.v.toNat else if t.kind = 2 then Wd.run t.op (vs.getD t.a.toNat (BitVec.ofNat 32 0)) (vs.getD t.b.toNat (BitVec.ofNat 32 0)) else t.v
def needT (ms : List (BitVec 32)) (t : Trm) : BitVec 32 := if t.kind = 1 then (BitVec.ofNat 32 1) <<< t.v.toNat else if t.kind = 2 then ms.getD t.a.toNat (BitVec.ofNat 32 0) ||| ms.getD t.b.toNat (BitVec.ofNat 32 0) else (BitVec.ofNat 32 0)
def valsL (x : Nat → BitVec 32) (L : List Trm) : List (BitVec 32) := L.foldl (fun vs t => vs ++ [valT x vs t]) []
def needsL (L : List Trm) : List (BitVec 32) := L.foldl (fun ms t => ms ++ [needT ms t]) []
theorem vals_snoc (x : Nat → BitVec 32) (L : List Trm) (t : Trm) : valsL x (L ++ [t]) = valsL x L ++ [valT x (valsL x L) t] := by unfold valsL; rw [List.foldl_append]; rfl
theorem needs_snoc (L : List Trm) (t : Trm) : needsL (L ++ [t]) = needsL L ++ [needT (needsL L) t] := by unfold needsL; rw [List.foldl_append]; rfl
theorem snoc_ind {P : List Trm → Prop} (h0 : P []) (h1 : ∀ L t, P L → P (L ++ [t])) (L : List Trm) : P L := by
  have h : ∀ k, k ≤ L.length → P (L.take k) := by
    intro k
    induction k with
    | zero => intro _; rw [List.take_zero]; exact h0
    | succ k ih =>
      intro hk
      rw [List.take_add_one, List.getElem?_eq_getElem (by omega)]
      exact h1 _ _ (ih (by omega))
  have := h L.length (Nat.le_refl _)
  rwa [List.take_length] at this
theorem vals_len (x : Nat → BitVec 32) (L : List Trm) : (valsL x L).length = L.length := by
  refine snoc_ind (P := fun L => (valsL x L).length = L.length) rfl (fun L t h => ?_) L
  rw [vals_snoc, List.length_append, List.length_append, h]; rfl
theorem needs_len (L : List Trm) : (needsL L).length = L.length := by
  refine snoc_ind (P := fun L => (needsL L).length = L.length) rfl (fun L t h => ?_) L
  rw [needs_snoc, List.length_append, List.length_append, h]; rfl
theorem vals_take (x : Nat → BitVec 32) (L : List Trm) {n k : Nat} (hn : n ≤ L.length) (hk : k < n) : (valsL x (L.take n)).getD k (BitVec.ofNat 32 0) = (valsL x L).getD k (BitVec.ofNat 32 0) := by
  have h : ∀ d, n + d ≤ L.length → (valsL x (L.take (n + d))).getD k (BitVec.ofNat 32 0) = (valsL x (L.take n)).getD k (BitVec.ofNat 32 0) := by
    intro d
    induction d with
    | zero => intro _; rfl
    | succ d ih =>
      intro hd
      rw [← ih (by omega), show n + (d + 1) = (n + d) + 1 by omega, List.take_add_one, List.getElem?_eq_getElem (by omega), Option.toList_some, vals_snoc,
        List.getD_eq_getElem?_getD, List.getD_eq_getElem?_getD, List.getElem?_append_left (by rw [vals_len, List.length_take]; omega)]
  have := h (L.length - n) (by omega)
  rw [show n + (L.length - n) = L.length by omega, List.take_length] at this
  exact this.symm
theorem needs_take (L : List Trm) {n k : Nat} (hn : n ≤ L.length) (hk : k < n) : (needsL (L.take n)).getD k (BitVec.ofNat 32 0) = (needsL L).getD k (BitVec.ofNat 32 0) := by
  have h : ∀ d, n + d ≤ L.length → (needsL (L.take (n + d))).getD k (BitVec.ofNat 32 0) = (needsL (L.take n)).getD k (BitVec.ofNat 32 0) := by
    intro d
    induction d with
    | zero => intro _; rfl
    | succ d ih =>
      intro hd
      rw [← ih (by omega), show n + (d + 1) = (n + d) + 1 by omega, List.take_add_one, List.getElem?_eq_getElem (by omega), Option.toList_some, needs_snoc,
        List.getD_eq_getElem?_getD, List.getD_eq_getElem?_getD, List.getElem?_append_left (by rw [needs_len, List.length_take]; omega)]
  have := h (L.length - n) (by omega)
  rw [show n + (L.length - n) = L.length by omega, List.take_length] at this
  exact this.symm
def valN (x : Nat → BitVec 32) (L : List Trm) (n : Nat) : BitVec 32 := (valsL x L).getD n (BitVec.ofNat 32 0)
def needN (L : List Trm) (n : Nat) : BitVec 32 := (needsL L).getD n (BitVec.ofNat 32 0)
theorem val_at (x : Nat → BitVec 32) {L : List Trm} {n : Nat} {t : Trm} (h : L[n]? = some t) : valN x L n = valT x (valsL x (L.take n)) t := by
  have hn := (List.getElem?_eq_some_iff.1 h).1
  unfold valN
  rw [← vals_take x L (n := n + 1) (by omega) (by omega), List.take_add_one, h, Option.toList_some, vals_snoc, List.getD_eq_getElem?_getD, List.getElem?_append_right (by rw [vals_len, List.length_take]; omega), vals_len, List.length_take, show n - min n L.length = 0 by omega]; rfl
theorem need_at {L : List Trm} {n : Nat} {t : Trm} (h : L[n]? = some t) : needN L n = needT (needsL (L.take n)) t := by
  have hn := (List.getElem?_eq_some_iff.1 h).1
  unfold needN
  rw [← needs_take L (n := n + 1) (by omega) (by omega), List.take_add_one, h, Option.toList_some, needs_snoc, List.getD_eq_getElem?_getD, List.getElem?_append_right (by rw [needs_len, List.length_take]; omega), needs_len, List.length_take, show n - min n L.length = 0 by omega]; rfl
theorem val_const (x : Nat → BitVec 32) {L : List Trm} {n : Nat} {v : BitVec 32} (h : L[n]? = some (constT v)) : valN x L n = v := by rw [val_at x h]; rfl
theorem need_const {L : List Trm} {n : Nat} {v : BitVec 32} (h : L[n]? = some (constT v)) : needN L n = (BitVec.ofNat 32 0) := by rw [need_at h]; rfl
theorem reg_nat {r : Nat} (h0 : 0 < r) (hr : r < 32) : regT (r : Int) = ⟨1, BitVec.ofNat 32 r, 0, 0, 0⟩ := by
  unfold regT; rw [if_neg (by omega), BitVec.ofInt_natCast]
theorem val_reg (x : Nat → BitVec 32) {L : List Trm} {n r : Nat} (h0 : 0 < r) (hr : r < 32) (h : L[n]? = some (regT (r : Int))) : valN x L n = x r := by
  rw [val_at x h, reg_nat h0 hr]
  show x (BitVec.ofNat 32 r).toNat = x r
  rw [BitVec.toNat_ofNat, Nat.mod_eq_of_lt (by omega)]
theorem need_reg {L : List Trm} {n r : Nat} (h0 : 0 < r) (hr : r < 32) (h : L[n]? = some (regT (r : Int))) : needN L n = (BitVec.ofNat 32 1) <<< r := by
  rw [need_at h, reg_nat h0 hr]
  show (BitVec.ofNat 32 1) <<< (BitVec.ofNat 32 r).toNat = _
  rw [BitVec.toNat_ofNat, Nat.mod_eq_of_lt (by omega)]
theorem val_op (x : Nat → BitVec 32) {L : List Trm} {n a b : Nat} {op : Int} (h : L[n]? = some (opT op (a : Int) (b : Int))) (ha : a < n) (hb : b < n) : valN x L n = Wd.run op (valN x L a) (valN x L b) := by
  have hn := (List.getElem?_eq_some_iff.1 h).1
  rw [val_at x h]
  show Wd.run op ((valsL x (L.take n)).getD (a : Int).toNat (BitVec.ofNat 32 0)) ((valsL x (L.take n)).getD (b : Int).toNat (BitVec.ofNat 32 0)) = _
  rw [Int.toNat_natCast, Int.toNat_natCast, vals_take x L (by omega) ha, vals_take x L (by omega) hb]; rfl
theorem need_op {L : List Trm} {n a b : Nat} {op : Int} (h : L[n]? = some (opT op (a : Int) (b : Int))) (ha : a < n) (hb : b < n) : needN L n = needN L a ||| needN L b := by
  have hn := (List.getElem?_eq_some_iff.1 h).1
  rw [need_at h]
  show (needsL (L.take n)).getD (a : Int).toNat (BitVec.ofNat 32 0) ||| (needsL (L.take n)).getD (b : Int).toNat (BitVec.ofNat 32 0) = _
  rw [Int.toNat_natCast, Int.toNat_natCast, needs_take L (by omega) ha, needs_take L (by omega) hb]; rfl
/-- What a term comes to hangs on its registers alone. -/
theorem val_needs {L : List Trm} (h : OkT L) {x y : Nat → BitVec 32} : ∀ (n : Nat), n < L.length → (∀ r, r < 32 → (needN L n).getLsbD r = true → x r = y r) → valN x L n = valN y L n := by
  intro n
  induction n using Nat.strongRecOn with
  | ind n ih =>
    intro hn hxy
    have ht : L[n]? = some L[n] := List.getElem?_eq_getElem hn
    rcases h.fine n _ ht with ⟨v, e⟩ | ⟨r, h0, hr, e⟩ | ⟨op, a, b, _, _, ha, hb, e⟩
    · rw [e] at ht; rw [val_const x ht, val_const y ht]
    · rw [e] at ht
      rw [val_reg x h0 hr ht, val_reg y h0 hr ht]
      refine hxy r hr ?_
      rw [need_reg h0 hr ht, BitVec.getLsbD_shiftLeft]
      simp [hr]
    · rw [e] at ht
      rw [need_op ht ha hb] at hxy
      rw [val_op x ht ha hb, val_op y ht ha hb, ih a ha (by omega) (fun r hr hb' => hxy r hr (by rw [BitVec.getLsbD_or, hb']; rfl)), ih b hb (by omega) (fun r hr hb' => hxy r hr (by rw [BitVec.getLsbD_or, hb', Bool.or_true]))]
end Tm
end Go.Proofs.Ythlefedljgmmfaa
namespace Go.Proofs.Ythlefedljgmmfaa
open Go.RowKit Go.Lib Tm
set_option linter.unusedVariables false

namespace Tm
def ptrV (g : Nat) : Value := .pointer (some ⟨g, 0, none⟩)
def termC (t : Trm) : Array Value := #[.int .i64 t.kind, .int .u32 (t.v.toNat : Int), .int .i64 t.op, .int .i64 t.a, .int .i64 t.b]
def noT : Trm := ⟨0, (BitVec.ofNat 32 0), 0, 0, 0⟩
/-- Thirty-two registers. -/
def regsC (x : Nat → BitVec 32) : Array Value := ((List.range 32).map fun r => Value.int .u32 ((x r).toNat : Int)).toArray
theorem regs_size (x : Nat → BitVec 32) : (regsC x).size = 32 := by unfold regsC; simp
theorem regs_get (x : Nat → BitVec 32) {r : Nat} (h : r < 32) : (regsC x)[r]? = some (.int .u32 ((x r).toNat : Int)) := by
  unfold regsC; simp [h]
def hasN (L : List Trm) (n : Int) : Bool := decide (0 ≤ n ∧ n < L.length)
def nodeE (L : List Trm) (n : Int) : Nat := if hasN L n = true then 0 else 100
def nodeT (L : List Trm) (n : Int) : Trm := if hasN L n = true then L.getD n.toNat noT else noT
def evalN (x : Nat → BitVec 32) (L : List Trm) (n : Int) : BitVec 32 := if hasN L n = true then valN x L n.toNat else (BitVec.ofNat 32 0)
def varsN (L : List Trm) (n : Int) : BitVec 32 := if hasN L n = true then needN L n.toNat else (BitVec.ofNat 32 0)
def regN (L : List Trm) (r : Int) : Nat := if regE r = 0 then findT L (regT r) else 0
def regL (L : List Trm) (r : Int) : List Trm := if regE r = 0 then addT L (regT r) else L
def opN (L : List Trm) (op a b : Int) : Nat := if opE L op a b = 0 then findT L (opT op a b) else 0
def opL (L : List Trm) (op a b : Int) : List Trm := if opE L op a b = 0 then addT L (opT op a b) else L
end Tm
/-- What a call on an object may turn: the object's blocks, and new ones. -/
structure Chg (fp fp' : Nat → Prop) (W W' : World) : Prop where
  os : W'.os = W.os
  tape : W'.tape = W.tape
  output : W'.output = W.output
  size : W.heap.size ≤ W'.heap.size
  block : ∀ k, k < W.heap.size → ¬ fp k → W'.heap[k]? = W.heap[k]?
  grow : ∀ k, fp' k → fp k ∨ W.heap.size ≤ k
theorem Chg.trans {fp fp1 fp2 : Nat → Prop} {W W1 W2 : World} (h : Chg fp fp1 W W1) (k : Chg fp1 fp2 W1 W2) : Chg fp fp2 W W2 :=
  ⟨k.os.trans h.os, k.tape.trans h.tape, k.output.trans h.output, Nat.le_trans h.size k.size, fun j hj hf => (k.block j (Nat.lt_of_lt_of_le hj h.size) (fun c => (h.grow j c).elim hf (fun c2 => by omega))).trans (h.block j hj hf), fun j hj => (k.grow j hj).elim (fun c => h.grow j c) (fun c => .inr (Nat.le_trans h.size c))⟩
structure TmAll (Dag : World → Nat → List Trm → (Nat → Prop) → Prop) : Prop where
  lt : ∀ {W : World} {g : Nat} {L : List Trm} {fp : Nat → Prop}, Dag W g L fp → ∀ k, fp k → k < W.heap.size
  keep : ∀ {W W' : World} {g : Nat} {L : List Trm} {fp : Nat → Prop}, Dag W g L fp → W.heap.size ≤ W'.heap.size → (∀ k, fp k → W'.heap[k]? = W.heap[k]?) → Dag W' g L fp
  new : ∀ (w : World), Calls Try.prog 20 #[] w fun e w' => ∃ (g : Nat) (fp : Nat → Prop), e = .returned (ptrV g) ∧ Dag w' g [] fp ∧ (∀ k, fp k → w.heap.size ≤ k) ∧ Below w.heap.size w w'
  const : ∀ {w : World} {g : Nat} {L : List Trm} {fp : Nat → Prop} (v : BitVec 32), OkT L → L.length ≤ 1000 → Dag w g L fp →
    Calls Try.prog 17 #[ptrV g, .int .u32 (v.toNat : Int)] w fun e w' => e = .returned (.int .i64 (findT L (constT v) : Int)) ∧ ∃ fp', Dag w' g (addT L (constT v)) fp' ∧ Chg fp fp' w w'
  var : ∀ {w : World} {g : Nat} {L : List Trm} {fp : Nat → Prop} (r : Int), -9223372036854775808 ≤ r ∧ r ≤ 9223372036854775807 → OkT L → L.length ≤ 1000 → Dag w g L fp →
    Calls Try.prog 18 #[ptrV g, .int .i64 r] w fun e w' => e = .returned (.tuple #[.int .i64 (regN L r : Int), .int .i64 (regE r : Int)]) ∧ ∃ fp', Dag w' g (regL L r) fp' ∧ Chg fp fp' w w'
  op : ∀ {w : World} {g : Nat} {L : List Trm} {fp : Nat → Prop} (op a b : Int), (-9223372036854775808 ≤ op ∧ op ≤ 9223372036854775807) → (-9223372036854775808 ≤ a ∧ a ≤ 9223372036854775807) → (-9223372036854775808 ≤ b ∧ b ≤ 9223372036854775807) → OkT L → L.length ≤ 1000 → Dag w g L fp →
    Calls Try.prog 19 #[ptrV g, .int .i64 op, .int .i64 a, .int .i64 b] w fun e w' => e = .returned (.tuple #[.int .i64 (opN L op a b : Int), .int .i64 (opE L op a b : Int)]) ∧ ∃ fp', Dag w' g (opL L op a b) fp' ∧ Chg fp fp' w w'
  len : ∀ {w : World} {g : Nat} {L : List Trm} {fp : Nat → Prop}, OkT L → L.length ≤ 1000 → Dag w g L fp →
    Calls Try.prog 10 #[ptrV g] w fun e w' => e = .returned (.int .i64 (L.length : Int)) ∧ ∃ fp', Dag w' g L fp' ∧ Chg fp fp' w w'
  node : ∀ {w : World} {g : Nat} {L : List Trm} {fp : Nat → Prop} (n : Int), (-9223372036854775808 ≤ n ∧ n ≤ 9223372036854775807) → OkT L → L.length ≤ 1000 → Dag w g L fp →
    Calls Try.prog 11 #[ptrV g, .int .i64 n] w fun e w' => e = .returned (.tuple #[.agg (termC (nodeT L n)), .int .i64 (nodeE L n : Int)]) ∧ ∃ fp', Dag w' g L fp' ∧ Chg fp fp' w w'
  eval : ∀ {w : World} {g : Nat} {L : List Trm} {fp : Nat → Prop} (n : Int) (x : Nat → BitVec 32), (-9223372036854775808 ≤ n ∧ n ≤ 9223372036854775807) → OkT L → L.length ≤ 1000 → Dag w g L fp →
    Calls Try.prog 13 #[ptrV g, .int .i64 n, .agg (regsC x)] w fun e w' => e = .returned (.tuple #[.int .u32 ((evalN x L n).toNat : Int), .int .i64 (nodeE L n : Int)]) ∧ ∃ fp', Dag w' g L fp' ∧ Chg fp fp' w w'
  vars : ∀ {w : World} {g : Nat} {L : List Trm} {fp : Nat → Prop} (n : Int), (-9223372036854775808 ≤ n ∧ n ≤ 9223372036854775807) → OkT L → L.length ≤ 1000 → Dag w g L fp →
    Calls Try.prog 15 #[ptrV g, .int .i64 n] w fun e w' => e = .returned (.tuple #[.int .u32 ((varsN L n).toNat : Int), .int .i64 (nodeE L n : Int)]) ∧ ∃ fp', Dag w' g L fp' ∧ Chg fp fp' w w'
  copy : ∀ {w : World} {g : Nat} {L : List Trm} {fp : Nat → Prop}, OkT L → L.length ≤ 1000 → Dag w g L fp →
    Calls Try.prog 23 #[ptrV g] w fun e w' => ∃ (g2 : Nat) (fp1 fp2 : Nat → Prop), e = .returned (ptrV g2) ∧ Dag w' g L fp1 ∧ Dag w' g2 L fp2 ∧ Chg fp fp1 w w' ∧ (∀ k, fp2 k → w.heap.size ≤ k) ∧ (∀ k, fp2 k → ¬ fp1 k)
end Go.Proofs.Ythlefedljgmmfaa
