/-
  Contracts of package image: textOf, At.
-/
import Derived.Test.YtkfomhllaogplaaGB
namespace Go.Proofs.Ytkfomhllaogplaa
open Go.RowKit El Go.Lib
open Classical
set_option linter.unusedSimpArgs false
set_option linter.unusedVariables false

def txN (l : List Seg) : Int := if isText l = true then (txt l : Int) else 0
theorem lastR_succ (l : List Seg) (i : Nat) : lastR l (i + 1) = if runAt l i = true then i else lastR l i := rfl
theorem cntR_succ (l : List Seg) (i : Nat) : cntR l (i + 1) = if runAt l i = true then cntR l i + 1 else cntR l i := rfl
theorem notText {l : List Seg} (h : cnt l ≠ 1) : isText l = false ∧ txN l = 0 := by
  have e : isText l = false := by unfold isText; rw [decide_eq_false h]; rfl
  exact ⟨e, by unfold txN; rw [e]; rfl⟩
theorem isText_of {l : List Seg} {g : Seg} (h : cnt l = 1) (hg : l[txt l]? = some g) : isText l = ofW g := by
  unfold isText; rw [decide_eq_true h, hg]; rfl
theorem textOf_nil (p : Option Addr) (c : Nat) (w : World) :
    Calls Try.prog 29 #[.slice p 0 c] w fun e w' => e = .returned (.tuple #[.int .i64 0, .bool false]) ∧ Below w.heap.size w w' := by
  go_enter Try.func29, Try.ntmps29
  go_wp2_with fail
  go_loopg [4, 5, 10] 0 (fun _ a b i wr => a = .int .i64 0 ∧ b = .int .i64 0 ∧ i = .int .i64 0 ∧ wr = w)
  case atStart => exact ⟨rfl, rfl, rfl, rfl⟩
  case round =>
    obtain ⟨rfl, rfl, rfl, rfl⟩ := hrel
    go_wp2_with fail
    go_ret2
    exact ⟨rfl, Below.refl _ _⟩
set_option maxRecDepth 100000 in
set_option maxHeartbeats 4000000 in
theorem textOf_core (g o c : Nat) (l : List Seg) (hl : l.length ≤ 16) (hlc : l.length ≤ c) (hm : ∀ x ∈ l, x.may) (w : World) (hS : SlS w (.slice (some ⟨g, o, none⟩) l.length c) l) :
    Calls Try.prog 29 #[.slice (some ⟨g, o, none⟩) l.length c] w fun e w' => e = .returned (.tuple #[.int .i64 (txN l), .bool (isText l)]) ∧ Below w.heap.size w w' := by
  have HS := hideE hS
  have HM := hideE hm
  clear hS hm
  go_enter Try.func29, Try.ntmps29
  go_wp2_with fail
  go_loopg [4, 5, 10] l.length (fun q a b i wr => ∃ k : Nat, k + q = l.length ∧ a = .int .i64 (lastR l k : Int) ∧ b = .int .i64 (cntR l k : Int) ∧ i = .int .i64 (k : Int) ∧ Below w.heap.size w wr)
  case atStart => exact ⟨0, by omega, rfl, rfl, rfl, Below.refl _ _⟩
  case round =>
    obtain ⟨k, hkq, rfl, rfl, rfl, hB⟩ := hrel
    cases gk with
    | zero =>
      obtain rfl : k = l.length := by omega
      have hk : ¬ ((l.length : Int) < (l.length : Int)) := by omega
      by_cases h1 : cnt l = 1
      · have ht := txt_lt h1
        obtain ⟨y, hy⟩ : ∃ y, l[txt l]? = some y := ⟨l[txt l]'ht, List.getElem?_eq_getElem ht⟩
        have HT := hideE (isText_of h1 hy)
        obtain ⟨hc, _⟩ := slsCells (HS.out.below hB) (by omega)
        obtain ⟨b0, b1, b2, b3⟩ := SlS.at hc _ y hy
        have hym := HM.out y (List.mem_of_getElem? hy)
        rw [show lastR l l.length = txt l from rfl, show cntR l l.length = 1 from h1]
        have ht' : ((txt l : Nat) : Int) < (l.length : Int) := by omega
        have ht0 : (0 : Int) ≤ ((txt l : Nat) : Int) := by omega
        have Hy := hideE hy
        have H1 := hideE h1
        have HB := hideE hB
        clear hy hc h1 hB
        cases hw : ofW y with
        | true =>
          go_wp2_with (go_at_call 46; refine (ofWords_any y hym _).mono ?_; rintro e w1 ⟨he, hb1⟩; rw [hw] at he; subst he)
          go_ret2
          exact ⟨by rw [HT.out, hw]; unfold txN; rw [HT.out, hw]; rfl, HB.out.trans (hb1.mono HB.out.size)⟩
        | false =>
          go_wp2_with (go_at_call 46; refine (ofWords_any y hym _).mono ?_; rintro e w1 ⟨he, hb1⟩; rw [hw] at he; subst he)
          go_ret2
          exact ⟨by rw [HT.out, hw]; unfold txN; rw [HT.out, hw]; rfl, HB.out.trans (hb1.mono HB.out.size)⟩
      · obtain ⟨n1, n2⟩ := notText h1
        have HN := hideE n1
        have HN2 := hideE n2
        have hne : ((cntR l l.length : Int) != 1) = true := bne_iff_ne.2 fun e => h1 (by unfold cnt; omega)
        clear n1 n2 h1
        go_wp2_with fail
        go_ret2
        exact ⟨by rw [HN.out, HN2.out]; rfl, hB⟩
    | succ q =>
      have hk : ((k : Int) < (l.length : Int)) := by omega
      have hk0 : (0 : Int) ≤ (k : Int) := by omega
      have hwk : IntKind.i64.wrap ((k : Int) + 1) = (k : Int) + 1 := wrE (by omega) (by omega)
      have hcl := cntR_le l k
      have hwc : IntKind.i64.wrap ((cntR l k : Int) + 1) = (cntR l k : Int) + 1 := wrE (by omega) (by omega)
      obtain ⟨y, hy⟩ : ∃ y, l[k]? = some y := ⟨l[k]'(by omega), List.getElem?_eq_getElem (by omega)⟩
      obtain ⟨hc, _⟩ := slsCells (HS.out.below hB) (by omega)
      obtain ⟨b0, b1, b2, b3⟩ := SlS.at hc k y hy
      have hym := HM.out y (List.mem_of_getElem? hy)
      have hand := and_1 y.flags hym.2.2.2.1 hym.2.2.2.2.1
      have hr := runAt_of hy
      have HR := hideE hr
      have HB := hideE hB
      clear hy hc hr hB hym
      by_cases hf : y.flags % 2 = 1
      · rw [hf] at hand
        have HF := hideE hf
        clear hf
        go_wp2_with fail
        go_roundg q
        case measure => omega
        case rel =>
          have e : runAt l k = true := by rw [HR.out]; exact decide_eq_true HF.out
          exact ⟨k + 1, by omega, by rw [lastR_succ, if_pos e], by rw [cntR_succ, if_pos e]; simp, by simp, HB.out.alloc HB.out.size _⟩
      · have e : runAt l k = false := by rw [HR.out]; exact decide_eq_false hf
        rw [show y.flags % 2 = 0 by omega] at hand
        have HE := hideE e
        clear hf e
        go_wp2_with fail
        go_roundg q
        case measure => omega
        case rel =>
          exact ⟨k + 1, by omega, by rw [lastR_succ, if_neg (by rw [HE.out]; simp)], by rw [cntR_succ, if_neg (by rw [HE.out]; simp)], by simp, HB.out.alloc HB.out.size _⟩
theorem textOf_any (v : Value) (l : List Seg) (hl : l.length ≤ 16) (hm : ∀ x ∈ l, x.may) (w : World) (hS : SlS w v l) :
    Calls Try.prog 29 #[v] w fun e w' => e = .returned (.tuple #[.int .i64 (txN l), .bool (isText l)]) ∧ Below w.heap.size w w' := by
  rcases hS with ⟨p, c, rfl, rfl⟩ | ⟨g, o, c, rfl, hlc, hg, hc⟩
  · have h : cnt ([] : List Seg) ≠ 1 := by simp [cnt, cntR]
    rw [(notText h).1, (notText h).2]; exact textOf_nil p c w
  · exact textOf_core g o c l hl hlc hm w (.inr ⟨g, o, c, rfl, hlc, hg, hc⟩)
/-- The word at an address of a text. -/
theorem at_any (i : Img) (v : Value) (a : BitVec 32) (hi : i.ok) (w : World) (hS : SlW w v i.words) :
    Calls Try.prog 13 #[imgV i v, .int .u32 (a.toNat : Int)] w fun e w' => e = .returned (.tuple #[.int .u32 (atW i a : Int), .bool (atB i a)]) ∧ Below w.heap.size w w' := by
  obtain ⟨i1, i2, i3, i4⟩ := hi
  have ha := a.isLt
  have hb := i.base.isLt
  have hb0 : ∀ o, Below w.heap.size w (w.alloc o) := fun o => (Below.refl _ w).alloc (Nat.le_refl _) _
  obtain ⟨p, c, rfl, hlc⟩ := hS.len
  simp only [imgV]
  by_cases h : atB i a = true
  · obtain ⟨n, hn, hw, hlt, hle, h4⟩ := at_yes h
    rw [hw, h]
    rcases hS with ⟨_, _, _, e⟩ | ⟨g, o, c', e, _, hg, hc⟩
    · rw [e] at hlt; simp at hlt
    injection e with e1 e2 e3
    subst e1 e3
    have hcell := hc _ _ hn
    have hcn : ∀ ob, (w.alloc ob).cell? ⟨g, o + (a.toNat - i.base.toNat) / 4, none⟩ = some (.int .u32 (n : Int)) := fun ob => by rw [(hb0 ob).cell (by exact hg)]; exact hcell
    obtain ⟨k, hk⟩ : ∃ k, (a.toNat - i.base.toNat) / 4 = k := ⟨_, rfl⟩
    rw [hk] at hcn hlt
    have e1 : IntKind.u32.wrap ((a.toNat : Int) - (i.base.toNat : Int)) = (4 * k : Int) := by
      show ((a.toNat : Int) - (i.base.toNat : Int)) % 4294967296 = _
      omega
    have e1' : ((a.toNat : Int) - (i.base.toNat : Int)) % 4294967296 = (4 * k : Int) := e1
    have e2 : (4 * (k : Int)) / 4 = (k : Int) := by omega
    have e3 : (a.toNat : Int) % 4 = 0 := by omega
    have hk0 : (0 : Int) ≤ (k : Int) := by omega
    have hk1 : (k : Int) < (i.words.length : Int) := by omega
    clear hc hcell hk hn hw h
    go_enter Try.func13, Try.ntmps13
    go_wp2_with fail
    go_ret2
    exact ⟨rfl, hb0 _⟩
  · have hf : atB i a = false := by simpa using h
    have H := hideE (at_no hf)
    have HF := hideE hf
    by_cases h4 : (a.toNat : Int) % 4 = 0
    · obtain ⟨k, hk⟩ : ∃ k : Nat, ((a.toNat : Int) - (i.base.toNat : Int)) % 4294967296 / 4 = (k : Int) := ⟨(((a.toNat : Int) - (i.base.toNat : Int)) % 4294967296 / 4).toNat, by omega⟩
      have hge : ¬ ((k : Int) < (i.words.length : Int)) := by
        intro hlt
        refine h ?_
        unfold atB
        refine decide_eq_true ⟨by omega, by omega, by omega⟩
      have hge' : (i.words.length : Int) ≤ (k : Int) := by omega
      obtain ⟨m, hm⟩ : ∃ m : Nat, ((a.toNat : Int) - (i.base.toNat : Int)) % 4294967296 = (m : Int) := ⟨(((a.toNat : Int) - (i.base.toNat : Int)) % 4294967296).toNat, by omega⟩
      have e1 : IntKind.u32.wrap ((a.toNat : Int) - (i.base.toNat : Int)) = (m : Int) := hm
      rw [hm] at hk
      clear h hf
      go_enter Try.func13, Try.ntmps13
      go_wp2_with fail
      go_ret2
      exact ⟨by rw [H.out, HF.out]; rfl, hb0 _⟩
    · clear h hf
      go_enter Try.func13, Try.ntmps13
      go_wp2_with fail
      go_ret2
      exact ⟨by rw [H.out, HF.out]; rfl, hb0 _⟩
end Go.Proofs.Ytkfomhllaogplaa
