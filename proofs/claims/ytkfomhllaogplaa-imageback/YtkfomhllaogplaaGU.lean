/-
  Plain facts on the memory that a program is loaded into: its text's words stand there; with another text it differs there alone.
-/
import Derived.Test.YtkfomhllaogplaaZKi
import Derived.Test.YtkfomhllaogplaaGK
namespace Go.Proofs.Ytkfomhllaogplaa
open Go.RowKit El Mm
open Classical

namespace El
theorem rise_load (l : List Seg) : ∀ k : Nat, Rise (loadK l k)
  | 0 => rise_nil
  | k + 1 => by
    rw [loadK]
    split
    · exact rise_puts (rise_load l k) _ _ _
    · exact rise_load l k
/-- A segment at whose addresses x does not lie leaves x as it was. -/
theorem look_off {m : Cs} {y : Seg} (hm : y.may) (hd : y.data.length ≤ 65536) {x : Int} (hx : 0 ≤ x ∧ x < 4294967296) (h : x < (y.addr.toNat : Int) ∨ (y.addr.toNat : Int) + y.size ≤ x) : Mm.look (Mm.puts m (y.addr.toNat : Int) y.data y.data.length) x = Mm.look m x := by
  rw [look_puts hx _ hd, if_neg]
  obtain ⟨m1, m2, m3, _, _, m6⟩ := hm
  have := y.addr.isLt
  unfold far
  omega
theorem look_on {m : Cs} {y : Seg} (hd : y.data.length ≤ 65536) {x : Int} (hx : 0 ≤ x ∧ x < 4294967296) (h : (y.addr.toNat : Int) ≤ x ∧ x < (y.addr.toNat : Int) + y.data.length) : Mm.look (Mm.puts m (y.addr.toNat : Int) y.data y.data.length) x = ((y.data.getD (x - y.addr.toNat).toNat 0).toNat : Int) := by
  have e : far x (y.addr.toNat : Int) = (x - y.addr.toNat).toNat := by unfold far; omega
  rw [look_puts hx _ hd, if_pos (by rw [e]; omega), e]
theorem apart_all {l : List Seg} (h : ¬ Meets l) {i j : Nat} {g k : Seg} (hi : l[i]? = some g) (hj : l[j]? = some k) (hij : i ≠ j) : g.apart k := by
  by_cases e : g.apart k
  · exact e
  · rcases Nat.lt_or_gt_of_ne hij with h1 | h1
    · exact absurd ⟨j, i, k, g, h1, hj, hi, fun e' => e (Seg.apart_comm.1 e')⟩ h
    · exact absurd ⟨i, j, g, k, h1, hi, hj, e⟩ h
theorem look_text {l : List Seg} (hc : chk l = 0) (hd : ∀ g ∈ l, g.data.length ≤ 65536) {K : Nat} {g : Seg} (hK : l[K]? = some g) {x : Int} (h : (g.addr.toNat : Int) ≤ x ∧ x < (g.addr.toNat : Int) + g.data.length) :
    ∀ n : Nat, K < n → n ≤ l.length → Mm.look (loadK l n) x = ((g.data.getD (x - g.addr.toNat).toNat 0).toNat : Int) := by
  obtain ⟨_, hm, ha⟩ := chk_zero hc
  have hgm := hm g (List.mem_of_getElem? hK)
  have hx : 0 ≤ x ∧ x < 4294967296 := by obtain ⟨_, _, m3, _, _, m6⟩ := hgm; omega
  intro n
  induction n with
  | zero => intro h; omega
  | succ n ih =>
    intro hn hl
    obtain ⟨y, hy⟩ : ∃ y, l[n]? = some y := ⟨l[n]'(by omega), List.getElem?_eq_getElem (by omega)⟩
    rw [← loadK_at hy]
    have hym := hm y (List.mem_of_getElem? hy)
    have hyd := hd y (List.mem_of_getElem? hy)
    by_cases e : n = K
    · subst e
      rw [hK] at hy
      injection hy with hy
      subst hy
      exact look_on hyd hx h
    · rw [look_off hym hyd hx, ih (by omega) (by omega)]
      have hap := apart_all ha hK hy (fun e' => e e'.symm)
      unfold Seg.apart at hap
      obtain ⟨_, _, m3, _, _, _⟩ := hgm
      omega
theorem num_text {l : List Seg} (hc : chk l = 0) (hd : ∀ g ∈ l, g.data.length ≤ 65536) {K : Nat} {g : Seg} (hK : l[K]? = some g) (k t : Nat) (ht : (words g.data)[k]? = some t) :
    Mm.num (memOf l) ((g.addr.toNat : Int) + 4 * (k : Int)) 4 = (t : Int) := by
  have hkl := (List.getElem?_eq_some_iff.1 ht).1
  rw [words_len] at hkl
  have hw := words_get g.data k (by omega)
  rw [ht] at hw
  injection hw with hw
  have hgm := (chk_zero hc).2.1 g (List.mem_of_getElem? hK)
  obtain ⟨_, _, m3, _, _, m6⟩ := hgm
  have hKl := (List.getElem?_eq_some_iff.1 hK).1
  have q : ∀ j : Nat, j < 4 → Mm.look (memOf l) (((g.addr.toNat : Int) + 4 * (k : Int) + (j : Int)) % 4294967296) = ((g.data.getD (4 * k + j) 0).toNat : Int) := fun j hj => by
    rw [show ((g.addr.toNat : Int) + 4 * (k : Int) + (j : Int)) % 4294967296 = (g.addr.toNat : Int) + 4 * (k : Int) + (j : Int) by omega]
    unfold memOf
    rw [look_text hc hd hK (by omega) _ hKl (Nat.le_refl _)]
    congr 3
    omega
  have q0 := q 0 (by omega)
  have q1 := q 1 (by omega)
  have q2 := q 2 (by omega)
  have q3 := q 3 (by omega)
  have hle : le4 g.data (4 * k) = (g.data.getD (4 * k + 0) 0).toNat + 256 * (g.data.getD (4 * k + 1) 0).toNat + 65536 * ((g.data.getD (4 * k + 2) 0).toNat + 256 * (g.data.getD (4 * k + 3) 0).toNat) := rfl
  rw [hw, hle]
  generalize (g.data.getD (4 * k + 0) 0).toNat = x0 at *
  generalize (g.data.getD (4 * k + 1) 0).toNat = x1 at *
  generalize (g.data.getD (4 * k + 2) 0).toNat = x2 at *
  generalize (g.data.getD (4 * k + 3) 0).toNat = x3 at *
  show (((0 + Mm.look (memOf l) (((g.addr.toNat : Int) + 4 * (k : Int) + ((0 : Nat) : Int)) % 4294967296) * 256 ^ 0) + Mm.look (memOf l) (((g.addr.toNat : Int) + 4 * (k : Int) + ((1 : Nat) : Int)) % 4294967296) * 256 ^ 1) + Mm.look (memOf l) (((g.addr.toNat : Int) + 4 * (k : Int) + ((2 : Nat) : Int)) % 4294967296) * 256 ^ 2) + Mm.look (memOf l) (((g.addr.toNat : Int) + 4 * (k : Int) + ((3 : Nat) : Int)) % 4294967296) * 256 ^ 3 = _
  rw [q0, q1, q2, q3]
  omega
theorem loads_agree {l : List Seg} (hc : chk l = 0) (hd : ∀ g ∈ l, g.data.length ≤ 65536) {K : Nat} {g : Seg} (hK : l[K]? = some g) {s : List UInt8} (hs : s.length = g.data.length) {x : Int} (hx : 0 ≤ x ∧ x < 4294967296) (h : x < (g.addr.toNat : Int) ∨ (g.addr.toNat : Int) + g.size ≤ x) :
    ∀ n : Nat, n ≤ l.length → Mm.look (loadK l n) x = Mm.look (loadK (setD l K s) n) x := by
  obtain ⟨_, hm, _⟩ := chk_zero hc
  intro n
  induction n with
  | zero => intro _; rfl
  | succ n ih =>
    intro hl
    have ih := ih (by omega)
    obtain ⟨y, hy⟩ : ∃ y, l[n]? = some y := ⟨l[n]'(by omega), List.getElem?_eq_getElem (by omega)⟩
    have hym := hm y (List.mem_of_getElem? hy)
    have hyd := hd y (List.mem_of_getElem? hy)
    have hz := setD_get l K s n
    by_cases e : n = K
    · subst e
      rw [hK] at hy
      injection hy with hy
      subst hy
      rw [if_pos rfl, hK] at hz
      have hz : (setD l n s)[n]? = some { g with data := s } := hz
      rw [← loadK_at hK, ← loadK_at hz, look_off hym hyd hx h, ih]
      have hm2 : Seg.may { g with data := s } := by unfold Seg.may at hym ⊢; simp only [hs]; exact hym
      exact (look_off (y := { g with data := s }) hm2 (by simp only [hs]; exact hyd) hx h).symm
    · rw [if_neg e, hy] at hz
      rw [← loadK_at hy, ← loadK_at hz, look_puts hx _ hyd, look_puts hx _ hyd, ih]
/-- With noughts in the text's place the two memories are one. -/
theorem nought_same {l : List Seg} (hc : chk l = 0) (hd : ∀ g ∈ l, g.data.length ≤ 65536) {K : Nat} {g : Seg} (hK : l[K]? = some g) (hsz : g.size = (g.data.length : Int)) {s z : List UInt8} (hs : s.length = g.data.length) :
    Mm.puts (memOf (setD l K s)) (g.addr.toNat : Int) z g.data.length = Mm.puts (memOf l) (g.addr.toNat : Int) z g.data.length := by
  refine ext' (rise_puts (rise_load _ _) _ _ _) (rise_puts (rise_load _ _) _ _ _) fun x hx => ?_
  have hdg := hd g (List.mem_of_getElem? hK)
  rw [look_puts hx _ hdg, look_puts hx _ hdg]
  by_cases h : far x (g.addr.toNat : Int) < g.data.length
  · rw [if_pos h, if_pos h]
  · rw [if_neg h, if_neg h]
    unfold memOf
    rw [setD_len]
    have hal := g.addr.isLt
    refine (loads_agree hc hd hK hs hx ?_ l.length (Nat.le_refl _)).symm
    unfold far at h
    omega
end El
end Go.Proofs.Ytkfomhllaogplaa
