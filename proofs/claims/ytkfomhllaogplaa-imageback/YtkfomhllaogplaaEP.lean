/-
  A program and its file, as plain lists of bytes: whether it may be, its file, a file's program; there and back. No program text in sight.
-/
import Derived.WalkKit
namespace Go.Proofs.Ytkfomhllaogplaa
namespace El
open Classical

structure Seg where
  addr : BitVec 32
  data : List UInt8
  size : Int
  flags : Int
structure Prg where
  entry : BitVec 32
  flags : BitVec 32
  segs : List Seg

def Seg.may (g : Seg) : Prop := 1 ≤ g.size ∧ g.size ≤ 16777216 ∧ (g.data.length : Int) ≤ g.size ∧ 0 ≤ g.flags ∧ g.flags ≤ 7 ∧ (g.addr.toNat : Int) + g.size ≤ 4294967296
def Seg.apart (g h : Seg) : Prop := (g.addr.toNat : Int) + g.size ≤ h.addr.toNat ∨ (h.addr.toNat : Int) + h.size ≤ g.addr.toNat
def Meets (l : List Seg) : Prop := ∃ (i j : Nat) (g h : Seg), j < i ∧ l[i]? = some g ∧ l[j]? = some h ∧ ¬ g.apart h
/-- Of any proposition whether it holds (by choice, where none is named). -/
structure Sure : Type where
  of : (q : Prop) → Decidable q
def chk (l : List Seg) (d : Sure := ⟨Classical.propDecidable⟩) : Int :=
  if 16 < l.length then 2 else @ite _ (∃ g ∈ l, ¬ g.may) (d.of _) 62 (@ite _ (Meets l) (d.of _) 63 0)

theorem Seg.apart_comm {g h : Seg} : g.apart h ↔ h.apart g := by unfold Seg.apart; exact or_comm
theorem chk_zero {l : List Seg} (h : chk l = 0) : l.length ≤ 16 ∧ (∀ g ∈ l, g.may) ∧ ¬ Meets l := by
  unfold chk at h
  split at h
  · cases h
  · split at h
    · cases h
    · split at h
      · cases h
      · rename_i h1 h2 h3
        exact ⟨by omega, fun g hg => Classical.byContradiction fun hn => h2 ⟨g, hg, hn⟩, h3⟩
theorem chk_ok {l : List Seg} (h1 : l.length ≤ 16) (h2 : ∀ g ∈ l, g.may) (h3 : ¬ Meets l) : chk l = 0 := by
  unfold chk
  rw [if_neg (by omega), if_neg (fun ⟨g, hg, hn⟩ => hn (h2 g hg)), if_neg h3]
theorem chk_big {l : List Seg} (h : 16 < l.length) : chk l = 2 := by unfold chk; rw [if_pos h]
theorem chk_form {l : List Seg} (h : l.length ≤ 16) {g : Seg} (hg : g ∈ l) (hn : ¬ g.may) : chk l = 62 := by
  unfold chk; rw [if_neg (by omega), if_pos ⟨g, hg, hn⟩]
theorem chk_meet {l : List Seg} (h : l.length ≤ 16) (h2 : ∀ g ∈ l, g.may) (h3 : Meets l) : chk l = 63 := by
  unfold chk; rw [if_neg (by omega), if_neg (fun ⟨g, hg, hn⟩ => hn (h2 g hg)), if_pos h3]
theorem chk_among (l : List Seg) : chk l = 0 ∨ chk l = 2 ∨ chk l = 62 ∨ chk l = 63 := by
  unfold chk; split
  · simp
  · split
    · simp
    · split <;> simp
theorem meets_rev {l : List Seg} (h : Meets l) : Meets l.reverse := by
  obtain ⟨i, j, g, k, hij, hi, hj, hn⟩ := h
  have hi' := (List.getElem?_eq_some_iff.1 hi).1
  have hj' := (List.getElem?_eq_some_iff.1 hj).1
  refine ⟨l.length - 1 - j, l.length - 1 - i, k, g, by omega, ?_, ?_, fun h => hn (Seg.apart_comm.1 h)⟩
  · rw [List.getElem?_reverse (by omega), ← hj]; congr 1; omega
  · rw [List.getElem?_reverse (by omega), ← hi]; congr 1; omega
theorem chk_rev (l : List Seg) : chk l.reverse = chk l := by
  have hm : Meets l.reverse ↔ Meets l := ⟨fun h => by have := meets_rev h; rwa [List.reverse_reverse] at this, meets_rev⟩
  unfold chk
  by_cases h1 : 16 < l.length
  · rw [if_pos h1, if_pos (by rw [List.length_reverse]; exact h1)]
  rw [if_neg h1, if_neg (by rw [List.length_reverse]; exact h1)]
  by_cases h2 : ∃ g ∈ l, ¬ g.may
  · rw [if_pos h2, if_pos (by simpa only [List.mem_reverse] using h2)]
  rw [if_neg h2, if_neg (by simpa only [List.mem_reverse] using h2)]
  by_cases h3 : Meets l
  · rw [if_pos h3, if_pos (hm.2 h3)]
  · rw [if_neg h3, if_neg (fun h => h3 (hm.1 h))]

/-! ### numbers and places -/
def le2 (s : List UInt8) (i : Nat) : Nat := (s.getD i 0).toNat + 256 * (s.getD (i + 1) 0).toNat
def le4 (s : List UInt8) (i : Nat) : Nat := le2 s i + 65536 * le2 s (i + 2)
theorem le2_lt (s : List UInt8) (i : Nat) : le2 s i < 65536 := by
  unfold le2; have := (s.getD i 0).toNat_lt; have := (s.getD (i + 1) 0).toNat_lt; omega
theorem le4_lt (s : List UInt8) (i : Nat) : le4 s i < 4294967296 := by
  unfold le4; have := le2_lt s i; have := le2_lt s (i + 2); omega
def b1 (n : Nat) : UInt8 := UInt8.ofNat (n % 256)
def b2 (n : Nat) : List UInt8 := [b1 n, b1 (n / 256)]
def b4 (n : Nat) : List UInt8 := [b1 n, b1 (n / 256), b1 (n / 65536), b1 (n / 16777216)]
theorem b1_toNat (n : Nat) : (b1 n).toNat = n % 256 := by
  unfold b1; rw [UInt8.toNat_ofNat']; omega
/-- The bytes l stand in t from p on. -/
def At (t : List UInt8) (p : Nat) (l : List UInt8) : Prop := ∀ i, i < l.length → t[p + i]? = l[i]?
theorem At.app {t : List UInt8} {p : Nat} {a b : List UInt8} (h : At t p (a ++ b)) : At t p a ∧ At t (p + a.length) b := by
  refine ⟨fun i hi => ?_, fun i hi => ?_⟩
  · rw [h i (by rw [List.length_append]; omega), List.getElem?_append_left hi]
  · have := h (a.length + i) (by rw [List.length_append]; omega)
    rw [List.getElem?_append_right (by omega), show a.length + i - a.length = i by omega] at this
    rw [← this]; congr 1; omega
theorem at_mid (a l c : List UInt8) : At (a ++ (l ++ c)) a.length l := fun i hi => by
  rw [List.getElem?_append_right (by omega), show a.length + i - a.length = i by omega, List.getElem?_append_left hi]
theorem At.of_len {t : List UInt8} {p : Nat} {l : List UInt8} (h : At t p l) (hl : 0 < l.length) : p + l.length ≤ t.length := by
  have h1 := h (l.length - 1) (by omega)
  rw [List.getElem?_eq_getElem (l := l) (by omega)] at h1
  have := (List.getElem?_eq_some_iff.1 h1).1
  omega
theorem At.cut {t : List UInt8} {p : Nat} {l : List UInt8} (h : At t p l) {k : Nat} (hk : p + l.length ≤ k) : At (t.take k) p l := fun i hi => by
  rw [List.getElem?_take_of_lt (by omega)]; exact h i hi
theorem At.more {t : List UInt8} {p : Nat} {l : List UInt8} (h : At t p l) (hp : p + l.length ≤ t.length) (m : List UInt8) : At (t ++ m) p l := fun i hi => by
  rw [List.getElem?_append_left (by omega)]; exact h i hi
def other (t : List UInt8) (k : Nat) (c : UInt8) : List UInt8 := t.take k ++ ([c] ++ t.drop (k + 1))
theorem other_len (t : List UInt8) (k : Nat) (c : UInt8) (hk : k < t.length) : (other t k c).length = t.length := by
  unfold other; simp; omega
theorem other_at (t : List UInt8) (k : Nat) (c : UInt8) (hk : k < t.length) (j : Nat) (hj : j ≠ k) : (other t k c)[j]? = t[j]? := by
  unfold other
  by_cases h : j < k
  · rw [List.getElem?_append_left (by simp; omega), List.getElem?_take_of_lt h]
  · rw [List.getElem?_append_right (by simp; omega), List.getElem?_append_right (by simp; omega), List.getElem?_drop]
    congr 1; simp; omega
theorem At.other {t : List UInt8} {p : Nat} {l : List UInt8} (h : At t p l) {k : Nat} (c : UInt8) (hk : k < t.length) (ho : k < p ∨ p + l.length ≤ k) : At (other t k c) p l := fun i hi => by
  rw [other_at t k c hk _ (by omega)]; exact h i hi
theorem getD_of {t : List UInt8} {i : Nat} {a : UInt8} (h : t[i]? = some a) : t.getD i 0 = a := by
  rw [List.getD_eq_getElem?_getD, h]; rfl
theorem At.le2 {t : List UInt8} {p n : Nat} (h : At t p (b2 n)) (hn : n < 65536) : le2 t p = n := by
  have h0 := h 0 (by simp [b2])
  have h1 := h 1 (by simp [b2])
  simp only [b2, Nat.add_zero] at h0 h1
  unfold El.le2
  rw [getD_of h0, getD_of h1, b1_toNat, b1_toNat]; omega
theorem At.le4 {t : List UInt8} {p n : Nat} (h : At t p (b4 n)) (hn : n < 4294967296) : le4 t p = n := by
  have h0 := h 0 (by simp [b4])
  have h1 := h 1 (by simp [b4])
  have h2 := h 2 (by simp [b4])
  have h3 := h 3 (by simp [b4])
  simp only [b4, Nat.add_zero] at h0 h1 h2 h3
  unfold El.le4 El.le2
  rw [getD_of h0, getD_of h1, getD_of h2, show p + 2 + 1 = p + 3 from rfl, getD_of h3, b1_toNat, b1_toNat, b1_toNat, b1_toNat]; omega
theorem At.piece {t : List UInt8} {p : Nat} {l : List UInt8} (h : At t p l) : (t.drop p).take l.length = l := by
  apply List.ext_getElem?
  intro i
  by_cases hi : i < l.length
  · rw [List.getElem?_take_of_lt hi, List.getElem?_drop]; exact h i hi
  · rw [List.getElem?_eq_none (by rw [List.length_take]; omega), List.getElem?_eq_none (by omega)]

/-! ### a file -/
def mark : List UInt8 := [127, 69, 76, 70, 1, 1, 1]
def kind : List UInt8 := [2, 0, 243, 0, 1, 0, 0, 0]
def sizes : List UInt8 := [52, 0, 32, 0]
def zeros (n : Nat) : List UInt8 := List.replicate n 0
def head (x : Prg) : List UInt8 :=
  mark ++ (zeros 9 ++ (kind ++ (b4 x.entry.toNat ++ (b4 52 ++ (b4 0 ++ (b4 x.flags.toNat ++ (sizes ++ (b2 x.segs.length ++ zeros 6))))))))
def row (g : Seg) (p : Nat) : List UInt8 :=
  b4 1 ++ (b4 p ++ (b4 g.addr.toNat ++ (b4 g.addr.toNat ++ (b4 g.data.length ++ (b4 g.size.toNat ++ (b4 g.flags.toNat ++ b4 4))))))
def rows : List Seg → Nat → List UInt8
  | [], _ => []
  | g :: r, p => row g p ++ rows r (p + g.data.length)
def datas (l : List Seg) : List UInt8 := l.flatMap (·.data)
def wr (x : Prg) : List UInt8 := head x ++ (rows x.segs (52 + 32 * x.segs.length) ++ datas x.segs)
theorem head_len (x : Prg) : (head x).length = 52 := by simp [head, mark, zeros, kind, b4, b2, sizes]
theorem row_len (g : Seg) (p : Nat) : (row g p).length = 32 := by simp [row, b4]
theorem rows_len (l : List Seg) (p : Nat) : (rows l p).length = 32 * l.length := by
  induction l generalizing p with
  | nil => rfl
  | cons g r ih => rw [rows, List.length_append, ih, row_len, List.length_cons]; omega
theorem wr_len (x : Prg) : (wr x).length = 52 + 32 * x.segs.length + (datas x.segs).length := by
  unfold wr; rw [List.length_append, List.length_append, head_len, rows_len]; omega
def pre (l : List Seg) (i : Nat) : Nat := (datas (l.take i)).length
theorem datas_cons (g : Seg) (r : List Seg) : datas (g :: r) = g.data ++ datas r := rfl
theorem pre_cons (g : Seg) (r : List Seg) (i : Nat) : pre (g :: r) (i + 1) = g.data.length + pre r i := by
  unfold pre; rw [List.take_succ_cons, datas_cons, List.length_append]
theorem pre_zero (l : List Seg) : pre l 0 = 0 := rfl
theorem pre_le (l : List Seg) (i : Nat) (g : Seg) (h : l[i]? = some g) : pre l i + g.data.length ≤ (datas l).length := by
  induction l generalizing i with
  | nil => simp at h
  | cons a r ih =>
    rw [datas_cons, List.length_append]
    cases i with
    | zero => simp at h; subst h; rw [pre_zero]; omega
    | succ i => have := ih i (by simpa using h); rw [pre_cons]; omega
theorem pre_last (l : List Seg) (g : Seg) (h : l[l.length - 1]? = some g) : pre l (l.length - 1) + g.data.length = (datas l).length := by
  have hl := (List.getElem?_eq_some_iff.1 h).1
  have e : l = l.take (l.length - 1) ++ [g] := by
    conv => lhs; rw [← List.take_length (l := l), show l.length = l.length - 1 + 1 by omega, List.take_add_one, h]
    simp
  have : datas l = datas (l.take (l.length - 1)) ++ g.data := by
    conv => lhs; rw [e]
    simp [datas]
  rw [this, List.length_append]; rfl
theorem rows_at {t : List UInt8} (l : List Seg) (q p i : Nat) (g : Seg) (h : At t q (rows l p)) (hg : l[i]? = some g) : At t (q + 32 * i) (row g (p + pre l i)) := by
  induction l generalizing q p i with
  | nil => simp at hg
  | cons a r ih =>
    rw [rows] at h
    obtain ⟨h1, h2⟩ := h.app
    rw [row_len] at h2
    cases i with
    | zero => simp at hg; subst hg; simpa [pre_zero] using h1
    | succ i =>
      have := ih (q + 32) (p + a.data.length) i h2 (by simpa using hg)
      rw [pre_cons, show q + 32 * (i + 1) = q + 32 + 32 * i by omega, ← Nat.add_assoc]; exact this
theorem datas_at {t : List UInt8} (l : List Seg) (q i : Nat) (g : Seg) (h : At t q (datas l)) (hg : l[i]? = some g) : At t (q + pre l i) g.data := by
  induction l generalizing q i with
  | nil => simp at hg
  | cons a r ih =>
    rw [datas_cons] at h
    obtain ⟨h1, h2⟩ := h.app
    cases i with
    | zero => simp at hg; subst hg; simpa [pre_zero] using h1
    | succ i =>
      have := ih _ i h2 (by simpa using hg)
      rw [pre_cons, ← Nat.add_assoc]; exact this

/-! ### a file's program -/
def Right (s : List UInt8) : Prop := (s.drop 0).take 7 = mark ∧ (s.drop 16).take 8 = kind ∧ (s.drop 40).take 4 = sizes
def segAt (s : List UInt8) (p : Nat) : Seg :=
  ⟨BitVec.ofNat 32 (le4 s (p + 8)), (s.drop (le4 s (p + 4))).take (le4 s (p + 16)), (le4 s (p + 20) : Int), (le4 s (p + 24) : Int)⟩
def Formed (s : List UInt8) (p : Nat) : Prop := le4 s p = 1 ∧ le4 s (p + 24) ≤ 7 ∧ le4 s (p + 16) ≤ le4 s (p + 20)
def rowE (s : List UInt8) (p : Nat) (d : Sure := ⟨Classical.propDecidable⟩) : Int :=
  @ite _ (¬ Formed s p) (d.of _) 62 (if s.length < le4 s (p + 4) + le4 s (p + 16) then 60 else 0)
/-- The first error of the rows from i on, of n more. -/
def rowsE (s : List UInt8) : (p n : Nat) → (d : Sure := ⟨Classical.propDecidable⟩) → Int
  | _, 0, _ => 0
  | p, n + 1, d => if rowE s p d ≠ 0 then rowE s p d else rowsE s (p + 32) n d
def segs (s : List UInt8) (p : Nat) : Nat → List Seg
  | 0 => []
  | n + 1 => segAt s p :: segs s (p + 32) n
def prsE (s : List UInt8) (d : Sure := ⟨Classical.propDecidable⟩) : Int :=
  if s.length < 52 then 60 else @ite _ (¬ Right s) (d.of _) 61 (if 16 < le2 s 44 then 2
  else if s.length < le4 s 28 + 32 * le2 s 44 then 60
  else if rowsE s (le4 s 28) (le2 s 44) d ≠ 0 then rowsE s (le4 s 28) (le2 s 44) d
  else chk (segs s (le4 s 28) (le2 s 44)) d)
def told (s : List UInt8) : Prg := ⟨BitVec.ofNat 32 (le4 s 24), BitVec.ofNat 32 (le4 s 36), segs s (le4 s 28) (le2 s 44)⟩
def prsV (s : List UInt8) (d : Sure := ⟨Classical.propDecidable⟩) : Prg := if prsE s d = 0 then told s else ⟨0, 0, []⟩

theorem segs_len (s : List UInt8) (p n : Nat) : (segs s p n).length = n := by
  induction n generalizing p with
  | zero => rfl
  | succ n ih => rw [segs, List.length_cons, ih]
theorem segs_get (s : List UInt8) (p n i : Nat) (h : i < n) : (segs s p n)[i]? = some (segAt s (p + 32 * i)) := by
  induction n generalizing p i with
  | zero => omega
  | succ n ih =>
    rw [segs]
    cases i with
    | zero => rfl
    | succ i => rw [List.getElem?_cons_succ, ih _ _ (by omega)]; congr 2; omega
theorem rowE_among (s : List UInt8) (p : Nat) : rowE s p = 0 ∨ rowE s p = 60 ∨ rowE s p = 62 := by
  unfold rowE; split
  · simp
  · split <;> simp
theorem rowsE_among (s : List UInt8) (p n : Nat) : rowsE s p n = 0 ∨ rowsE s p n = 60 ∨ rowsE s p n = 62 := by
  induction n generalizing p with
  | zero => exact .inl rfl
  | succ n ih =>
    rw [rowsE]; split
    · exact rowE_among s p
    · exact ih _
theorem rowsE_zero (s : List UInt8) (p n : Nat) (h : ∀ i, i < n → rowE s (p + 32 * i) = 0) : rowsE s p n = 0 := by
  induction n generalizing p with
  | zero => rfl
  | succ n ih =>
    have h0 := h 0 (by omega)
    simp only [Nat.mul_zero, Nat.add_zero] at h0
    rw [rowsE, if_neg (by rw [h0]; simp)]
    exact ih _ fun i hi => by have := h (i + 1) (by omega); rwa [show p + 32 * (i + 1) = p + 32 + 32 * i by omega] at this
theorem rowsE_short (s : List UInt8) (p n j : Nat) (h : ∀ i, i < n → rowE s (p + 32 * i) = 0 ∨ rowE s (p + 32 * i) = 60) (hj : j < n) (h60 : rowE s (p + 32 * j) = 60) : rowsE s p n = 60 := by
  induction n generalizing p j with
  | zero => omega
  | succ n ih =>
    have h0 := h 0 (by omega)
    simp only [Nat.mul_zero, Nat.add_zero] at h0
    rw [rowsE]
    rcases h0 with h0 | h0
    · rw [if_neg (by rw [h0]; simp)]
      cases j with
      | zero => simp only [Nat.mul_zero, Nat.add_zero] at h60; rw [h0] at h60; cases h60
      | succ j =>
        exact ih _ j (fun i hi => by have := h (i + 1) (by omega); rwa [show p + 32 * (i + 1) = p + 32 + 32 * i by omega] at this) (by omega) (by rwa [show p + 32 * (j + 1) = p + 32 + 32 * j by omega] at h60)
    · rw [if_pos (by rw [h0]; decide), h0]
theorem prsE_among (s : List UInt8) : prsE s = 0 ∨ prsE s = 2 ∨ prsE s = 60 ∨ prsE s = 61 ∨ prsE s = 62 ∨ prsE s = 63 := by
  unfold prsE
  split
  · simp
  · split
    · simp
    · split
      · simp
      · split
        · simp
        · split
          · rcases rowsE_among s (le4 s 28) (le2 s 44) with h | h | h <;> simp [h]
          · rcases chk_among (segs s (le4 s 28) (le2 s 44)) with h | h | h | h <;> simp [h]
theorem prs_fine {s : List UInt8} (h : prsE s = 0) : chk (prsV s).segs = 0 ∧ prsV s = told s ∧ 52 ≤ s.length ∧ ∀ g ∈ (prsV s).segs, g.data.length ≤ s.length := by
  have e : prsV s = told s := by unfold prsV; rw [if_pos h]
  unfold prsE at h
  split at h
  · cases h
  · split at h
    · cases h
    · split at h
      · cases h
      · split at h
        · cases h
        · split at h
          · rename_i h0; exact absurd h h0
          · refine ⟨by rw [e]; exact h, e, by omega, fun g hg => ?_⟩
            rw [e] at hg
            obtain ⟨i, hi⟩ := List.getElem?_of_mem hg
            have hl := (List.getElem?_eq_some_iff.1 hi).1
            simp only [told, segs_len] at hl
            simp only [told] at hi
            rw [segs_get _ _ _ _ hl] at hi
            injection hi with hi; subst hi
            simp only [segAt, List.length_take, List.length_drop]; omega
theorem prs_bad {s : List UInt8} (h : prsE s ≠ 0) : prsV s = ⟨0, 0, []⟩ := by unfold prsV; rw [if_neg h]

/-! ### there and back -/
structure Headed (t : List UInt8) (x : Prg) : Prop where
  len : 52 ≤ t.length
  m : At t 0 mark
  k : At t 16 kind
  e : At t 24 (b4 x.entry.toNat)
  p : At t 28 (b4 52)
  f : At t 36 (b4 x.flags.toNat)
  z : At t 40 sizes
  n : At t 44 (b2 x.segs.length)
theorem headed_wr (x : Prg) : Headed (wr x) x := by
  unfold wr head
  refine ⟨by simp [mark, zeros, kind, b4, b2, sizes], ?_, ?_, ?_, ?_, ?_, ?_, ?_⟩
  · intro i hi; rw [Nat.zero_add, List.append_assoc, List.getElem?_append_left hi]
  · simp only [← List.append_assoc]
    simp only [List.append_assoc _ _ (datas x.segs), List.append_assoc (mark ++ zeros 9) kind]
    have := at_mid (mark ++ zeros 9) kind
    rw [show (mark ++ zeros 9).length = 16 from rfl] at this
    simp only [List.append_assoc] at this ⊢
    exact this _
  · have := at_mid (mark ++ zeros 9 ++ kind) (b4 x.entry.toNat)
    rw [show (mark ++ zeros 9 ++ kind).length = 24 from rfl] at this
    simp only [List.append_assoc] at this ⊢
    exact this _
  · have := at_mid (mark ++ zeros 9 ++ kind ++ b4 x.entry.toNat) (b4 52)
    rw [show (mark ++ zeros 9 ++ kind ++ b4 x.entry.toNat).length = 28 from rfl] at this
    simp only [List.append_assoc] at this ⊢
    exact this _
  · have := at_mid (mark ++ zeros 9 ++ kind ++ b4 x.entry.toNat ++ b4 52 ++ b4 0) (b4 x.flags.toNat)
    rw [show (mark ++ zeros 9 ++ kind ++ b4 x.entry.toNat ++ b4 52 ++ b4 0).length = 36 from rfl] at this
    simp only [List.append_assoc] at this ⊢
    exact this _
  · have := at_mid (mark ++ zeros 9 ++ kind ++ b4 x.entry.toNat ++ b4 52 ++ b4 0 ++ b4 x.flags.toNat) sizes
    rw [show (mark ++ zeros 9 ++ kind ++ b4 x.entry.toNat ++ b4 52 ++ b4 0 ++ b4 x.flags.toNat).length = 40 from rfl] at this
    simp only [List.append_assoc] at this ⊢
    exact this _
  · have := at_mid (mark ++ zeros 9 ++ kind ++ b4 x.entry.toNat ++ b4 52 ++ b4 0 ++ b4 x.flags.toNat ++ sizes) (b2 x.segs.length)
    rw [show (mark ++ zeros 9 ++ kind ++ b4 x.entry.toNat ++ b4 52 ++ b4 0 ++ b4 x.flags.toNat ++ sizes).length = 44 from rfl] at this
    simp only [List.append_assoc] at this ⊢
    exact this _
theorem rows_wr (x : Prg) : At (wr x) 52 (rows x.segs (52 + 32 * x.segs.length)) := by
  have := at_mid (head x) (rows x.segs (52 + 32 * x.segs.length)) (datas x.segs)
  rwa [head_len] at this
theorem datas_wr (x : Prg) : At (wr x) (52 + 32 * x.segs.length) (datas x.segs) := by
  have := at_mid (head x ++ rows x.segs (52 + 32 * x.segs.length)) (datas x.segs) []
  rw [List.length_append, head_len, rows_len, List.append_nil, List.append_assoc] at this
  exact this
structure Stands (t : List UInt8) (x : Prg) : Prop where
  hd : Headed t x
  tab : 52 + 32 * x.segs.length ≤ t.length
  rs : At t 52 (rows x.segs (52 + 32 * x.segs.length))
theorem Headed.right {t : List UInt8} {x : Prg} (h : Headed t x) : Right t := ⟨h.m.piece, h.k.piece, h.z.piece⟩
theorem Headed.count {t : List UInt8} {x : Prg} (h : Headed t x) (hc : chk x.segs = 0) : le2 t 44 = x.segs.length := h.n.le2 (by have := (chk_zero hc).1; omega)
theorem Headed.place {t : List UInt8} {x : Prg} (h : Headed t x) : le4 t 28 = 52 := h.p.le4 (by omega)
structure RowIs (t : List UInt8) (p : Nat) (g : Seg) (q : Nat) : Prop where
  one : le4 t p = 1
  at_ : le4 t (p + 4) = q
  addr : le4 t (p + 8) = g.addr.toNat
  told : le4 t (p + 16) = g.data.length
  size : (le4 t (p + 20) : Int) = g.size
  flags : (le4 t (p + 24) : Int) = g.flags
theorem row_is {t : List UInt8} {p q : Nat} {g : Seg} (h : At t p (row g q)) (hm : g.may) (hq : q < 4294967296) : RowIs t p g q := by
  obtain ⟨m1, m2, m3, m4, m5, m6⟩ := hm
  have ha := g.addr.isLt
  unfold row at h
  obtain ⟨h0, h⟩ := h.app
  obtain ⟨h1, h⟩ := h.app
  obtain ⟨h2, h⟩ := h.app
  obtain ⟨h3, h⟩ := h.app
  obtain ⟨h4, h⟩ := h.app
  obtain ⟨h5, h⟩ := h.app
  obtain ⟨h6, h⟩ := h.app
  refine ⟨h0.le4 (by omega), h1.le4 hq, h2.le4 ha, h4.le4 (by omega), ?_, ?_⟩
  · rw [show le4 t (p + 20) = g.size.toNat from h5.le4 (by omega)]; omega
  · rw [show le4 t (p + 24) = g.flags.toNat from h6.le4 (by omega)]; omega
theorem Stands.row {t : List UInt8} {x : Prg} (h : Stands t x) (hc : chk x.segs = 0) (hb : (wr x).length < 4294967296) (i : Nat) (g : Seg) (hg : x.segs[i]? = some g) :
    RowIs t (52 + 32 * i) g (52 + 32 * x.segs.length + pre x.segs i) := by
  have hp := pre_le x.segs i g hg
  rw [wr_len] at hb
  exact row_is (rows_at _ _ _ i g h.rs hg) ((chk_zero hc).2.1 g (List.mem_of_getElem? hg)) (by omega)
theorem RowIs.formed {t : List UInt8} {p q : Nat} {g : Seg} (h : RowIs t p g q) (hm : g.may) : Formed t p := by
  obtain ⟨m1, m2, m3, m4, m5, m6⟩ := hm
  have := h.told; have := h.size; have := h.flags
  exact ⟨h.one, by omega, by omega⟩
theorem RowIs.seg {t : List UInt8} {p q : Nat} {g : Seg} (h : RowIs t p g q) (hd : At t q g.data) : segAt t p = g := by
  unfold segAt
  rw [h.addr, h.at_, h.told, h.size, h.flags, hd.piece]
  cases g
  simp
/-- A file in which all stands is its program's. -/
theorem back {t : List UInt8} {x : Prg} (h : Stands t x) (hl : (wr x).length ≤ t.length) (hd : At t (52 + 32 * x.segs.length) (datas x.segs)) (hc : chk x.segs = 0) (hb : (wr x).length < 4294967296) : prsE t = 0 ∧ prsV t = x := by
  have hr : ∀ i g, x.segs[i]? = some g → rowE t (52 + 32 * i) = 0 ∧ segAt t (52 + 32 * i) = g := fun i g hg => by
    have r := h.row hc hb i g hg
    have hm := (chk_zero hc).2.1 g (List.mem_of_getElem? hg)
    have hp := pre_le x.segs i g hg
    rw [wr_len] at hl
    refine ⟨?_, r.seg (datas_at _ _ i g hd hg)⟩
    unfold rowE
    rw [if_neg (fun hn => hn (r.formed hm)), if_neg (by rw [r.at_, r.told]; omega)]
  have hn := h.hd.count hc
  have hp := h.hd.place
  have hs : segs t 52 x.segs.length = x.segs := by
    apply List.ext_getElem?
    intro i
    by_cases hi : i < x.segs.length
    · rw [segs_get _ _ _ _ hi, List.getElem?_eq_getElem hi, (hr i _ (List.getElem?_eq_getElem hi)).2]
    · rw [List.getElem?_eq_none (by rw [segs_len]; omega), List.getElem?_eq_none (by omega)]
  have h16 := (chk_zero hc).1
  have hE : prsE t = 0 := by
    unfold prsE
    rw [if_neg (by have := h.hd.len; omega), if_neg (fun hn => hn h.hd.right), hn, hp, if_neg (by omega), if_neg (by have := h.tab; omega), if_neg, hs, hc]
    rw [rowsE_zero _ _ _ fun i hi => (hr i _ (List.getElem?_eq_getElem hi)).1]; simp
  refine ⟨hE, ?_⟩
  unfold prsV; rw [if_pos hE]
  unfold told
  rw [hn, hp, hs, h.hd.e.le4 x.entry.isLt, h.hd.f.le4 x.flags.isLt]
  cases x; simp
theorem stands_wr (x : Prg) : Stands (wr x) x := ⟨headed_wr x, by rw [wr_len]; omega, rows_wr x⟩
theorem Headed.more {t : List UInt8} {x : Prg} (h : Headed t x) (m : List UInt8) : Headed (t ++ m) x := by
  have hl := h.len
  exact ⟨by rw [List.length_append]; omega, h.m.more (by simp [mark]; omega) m, h.k.more (by simp [kind]; omega) m, h.e.more (by simp [b4]; omega) m, h.p.more (by simp [b4]; omega) m, h.f.more (by simp [b4]; omega) m, h.z.more (by simp [sizes]; omega) m, h.n.more (by simp [b2]; omega) m⟩
theorem back_wr {x : Prg} (hc : chk x.segs = 0) (hb : (wr x).length < 4294967296) : prsE (wr x) = 0 ∧ prsV (wr x) = x :=
  back (stands_wr x) (Nat.le_refl _) (datas_wr x) hc hb
theorem back_more {x : Prg} (hc : chk x.segs = 0) (hb : (wr x).length < 4294967296) (m : List UInt8) : prsE (wr x ++ m) = 0 ∧ prsV (wr x ++ m) = x := by
  have hl := wr_len x
  have hr := rows_len x.segs (52 + 32 * x.segs.length)
  refine back ⟨(headed_wr x).more m, ?_, (rows_wr x).more (by omega) m⟩ ?_ ((datas_wr x).more (by omega) m) hc hb
  · rw [List.length_append]; omega
  · rw [List.length_append]; omega
theorem Headed.cut {t : List UInt8} {x : Prg} (h : Headed t x) {k : Nat} (hk : 52 ≤ k) : Headed (t.take k) x := by
  have hl := h.len
  exact ⟨by rw [List.length_take]; omega, h.m.cut (by simp [mark]; omega), h.k.cut (by simp [kind]; omega), h.e.cut (by simp [b4]; omega), h.p.cut (by simp [b4]; omega), h.f.cut (by simp [b4]; omega), h.z.cut (by simp [sizes]; omega), h.n.cut (by simp [b2]; omega)⟩
theorem back_cut {x : Prg} (hc : chk x.segs = 0) (hb : (wr x).length < 4294967296) (k : Nat) (hk : k < (wr x).length) : prsE ((wr x).take k) = 60 := by
  have hlen : ((wr x).take k).length = k := by rw [List.length_take]; omega
  have hl := wr_len x
  have h16 := (chk_zero hc).1
  unfold prsE
  by_cases h52 : k < 52
  · rw [if_pos (by omega)]
  · have H := (headed_wr x).cut (k := k) (by omega)
    rw [if_neg (by omega), if_neg (fun hn => hn H.right), H.count hc, H.place, if_neg (by omega)]
    by_cases ht : k < 52 + 32 * x.segs.length
    · rw [if_pos (by omega)]
    · have hr := rows_len x.segs (52 + 32 * x.segs.length)
      have S : Stands ((wr x).take k) x := ⟨H, by omega, (rows_wr x).cut (by omega)⟩
      have hn0 : 0 < x.segs.length := by
        cases hs : x.segs with
        | nil => rw [hs] at hl ht; simp [datas] at hl ht; omega
        | cons a r => simp
      have hf : ∀ i, i < x.segs.length → ∀ g, x.segs[i]? = some g → rowE ((wr x).take k) (52 + 32 * i) = if k < 52 + 32 * x.segs.length + pre x.segs i + g.data.length then 60 else 0 := fun i hi g hg => by
        have r := S.row hc hb i g hg
        have hm := (chk_zero hc).2.1 g (List.mem_of_getElem? hg)
        unfold rowE
        rw [if_neg (fun hn => hn (r.formed hm)), hlen, r.at_, r.told]
      have h60 : rowsE ((wr x).take k) 52 x.segs.length = 60 := by
        refine rowsE_short _ _ _ (x.segs.length - 1) (fun i hi => ?_) (by omega) ?_
        · rw [hf i hi _ (List.getElem?_eq_getElem hi)]; split <;> simp
        · have hg : x.segs[x.segs.length - 1]? = some (x.segs[x.segs.length - 1]'(by omega)) := List.getElem?_eq_getElem (by omega)
          rw [hf _ (by omega) _ hg, if_pos]
          have := pre_last _ _ hg; omega
      rw [if_neg (by omega), if_pos (by rw [h60]; decide), h60]
theorem back_other {x : Prg} (hc : chk x.segs = 0) (hb : (wr x).length < 4294967296) (k : Nat) (c : UInt8) (hk : 7 ≤ k ∧ k < 16 ∨ 32 ≤ k ∧ k < 36 ∨ 46 ≤ k ∧ k < 52) : prsE (other (wr x) k c) = 0 ∧ prsV (other (wr x) k c) = x := by
  have hl := wr_len x
  have hkl : k < (wr x).length := by omega
  have ho := other_len (wr x) k c hkl
  have H := headed_wr x
  refine back ⟨⟨by omega, H.m.other c hkl (by simp [mark]; omega), H.k.other c hkl (by simp [kind]; omega), H.e.other c hkl (by simp [b4]; omega), H.p.other c hkl (by simp [b4]; omega), H.f.other c hkl (by simp [b4]; omega), H.z.other c hkl (by simp [sizes]; omega), H.n.other c hkl (by simp [b2]; omega)⟩, by omega, (rows_wr x).other c hkl (by omega)⟩ (by omega) ((datas_wr x).other c hkl (by omega)) hc hb
end El
end Go.Proofs.Ytkfomhllaogplaa
