/-
  Contracts of the document's layer 7: Words, Same, At.
-/
import Derived.Test.YtkfomhllaogplaaGC
import Derived.Test.YtkfomhllaogplaaEQ
namespace Go.Proofs.Ytkfomhllaogplaa
open Go.RowKit El Go.Lib
open Classical
set_option linter.unusedSimpArgs false
set_option linter.unusedVariables false

theorem SlW.at {W : World} {p : Option Addr} {n c : Nat} {l : List Nat} (h : SlW W (.slice p n c) l) {k u : Nat} (hk : l[k]? = some u) : ∃ g o, p = some ⟨g, o, none⟩ ∧ W.cell? ⟨g, o + k, none⟩ = some (.int .u32 (u : Int)) := by
  rcases h with ⟨_, _, _, rfl⟩ | ⟨g, o, cap, e, _, _, hc⟩
  · simp at hk
  · injection e with e1 e2 e3
    exact ⟨g, o, e1, hc k u hk⟩
theorem take_stepN {la lb : List Nat} {i x : Nat} (h : la.take i = lb.take i) (ha : la[i]? = some x) (hb : lb[i]? = some x) : la.take (i + 1) = lb.take (i + 1) := by
  rw [List.take_add_one, List.take_add_one, h, ha, hb]
set_option maxHeartbeats 4000000 in
set_option maxRecDepth 100000 in
theorem rwords_any (la lb : List Nat) (a b : Value) (hl : la.length ≤ 1000000) (w : World) (hSa : SlW w a la) (hSb : SlW w b lb) :
    Calls Try.prog 23 #[a, b] w fun e w' => e = .returned (.bool (decide (la = lb))) ∧ Below w.heap.size w w' := by
  obtain ⟨p, c, rfl, _⟩ := hSa.len
  obtain ⟨p', c', rfl, _⟩ := hSb.len
  have HA := hideE hSa
  have HB := hideE hSb
  clear hSa hSb
  by_cases h3 : la.length = lb.length
  · obtain ⟨nn, hnn⟩ : ∃ n, la.length = n := ⟨_, rfl⟩
    have hmm : lb.length = nn := by omega
    rw [hnn] at HA hl
    rw [hmm] at HB
    rw [hnn, hmm]
    have HN := hideE hnn
    have HM := hideE hmm
    clear h3 hnn hmm
    go_enter Try.func23, Try.ntmps23
    go_wp2_with fail
    go_loopg [5] nn (fun q i wr => ∃ k : Nat, k + q = nn ∧ i = .int .i64 (k : Int) ∧ la.take k = lb.take k ∧ Below w.heap.size w wr)
    case atStart => exact ⟨0, by omega, rfl, by simp, Below.refl _ _⟩
    case round =>
      obtain ⟨k, hkq, rfl, htk, hT⟩ := hrel
      have HT := hideE htk
      clear htk
      cases gk with
      | zero =>
        obtain rfl : k = nn := by omega
        have hk : ¬ ((k : Int) < (k : Int)) := by omega
        have HTw := hideE hT
        clear hT
        go_wp2_with fail
        go_ret
        exact ⟨congrArg (fun t => Ending.returned (.bool t)) (decide_eq_true (by
          have := HT.out
          rwa [List.take_of_length_le (by rw [HN.out]; omega), List.take_of_length_le (by rw [HM.out]; omega)] at this)).symm, HTw.out⟩
      | succ q =>
        have hk : ((k : Int) < (nn : Int)) := by omega
        have hk0 : (0 : Int) ≤ (k : Int) := by omega
        have hwk : IntKind.i64.wrap ((k : Int) + 1) = (k : Int) + 1 := wrE (by omega) (by omega)
        obtain ⟨u, hu⟩ : ∃ u, la[k]? = some u := ⟨la[k]'(by rw [HN.out]; omega), List.getElem?_eq_getElem (by rw [HN.out]; omega)⟩
        obtain ⟨v, hv⟩ : ∃ v, lb[k]? = some v := ⟨lb[k]'(by rw [HM.out]; omega), List.getElem?_eq_getElem (by rw [HM.out]; omega)⟩
        obtain ⟨g, o, rfl, a3⟩ := (HA.out.belowB hT (by exact Nat.le_refl _)).at hu
        obtain ⟨g', o', rfl, c3⟩ := (HB.out.belowB hT (by exact Nat.le_refl _)).at hv
        have Hu := hideE hu
        have Hv := hideE hv
        have HTw := hideE hT
        clear hu hv hT
        by_cases huv : u = v
        · subst huv
          go_wp2_with fail
          go_quiet (fail)
          go_wp2_with fail
          go_roundg q
          case measure => omega
          case rel => exact ⟨k + 1, by omega, by simp, take_stepN HT.out Hu.out Hv.out, HTw.out.trans ((drew_low _ _ _).mono (HTw.out.size))⟩
        · have hne : ((u : Int) != (v : Int)) = true := bne_iff_ne.2 (by omega)
          have HV := hideE huv
          clear huv
          go_wp2_with fail
          go_quiet (fail)
          go_wp2_with fail
          go_ret
          exact ⟨congrArg (fun t => Ending.returned (.bool t)) (decide_eq_false (fun e => HV.out (by have := Hu.out; rw [e, Hv.out] at this; injection this with this; exact this.symm))).symm, HTw.out.trans ((drew_low _ _ _).mono (HTw.out.size))⟩
  · have q3 : ((la.length : Int) != (lb.length : Int)) = true := bne_iff_ne.2 (by omega)
    have hd := hideE (decide_eq_false (fun e => h3 (by rw [e])) : decide (la = lb) = false)
    rw [hd.out]
    clear h3
    go_enter Try.func23, Try.ntmps23
    go_wp2_with fail
    go_ret
    exact ⟨rfl, Below.refl _ _⟩
theorem img_ne {i j : Img} (h : i.base ≠ j.base ∨ i.entry ≠ j.entry ∨ i.seg ≠ j.seg ∨ i.words ≠ j.words) : decide (i = j) = false := decide_eq_false fun e => by subst e; rcases h with h | h | h | h <;> exact h rfl
set_option maxHeartbeats 4000000 in
set_option maxRecDepth 100000 in
theorem rsame_any (i j : Img) (a b : Value) (hl : i.words.length ≤ 1000000) (w : World) (hSa : SlW w a i.words) (hSb : SlW w b j.words) :
    Calls Try.prog 14 #[imgV i a, imgV j b] w fun e w' => e = .returned (.bool (decide (i = j))) ∧ Below w.heap.size w w' := by
  obtain ⟨p, c, rfl, _⟩ := hSa.len
  obtain ⟨p', c', rfl, _⟩ := hSb.len
  have hb0 : ∀ o1 o2, Below w.heap.size w ((w.alloc o1).alloc o2) := fun o1 o2 => ((Below.refl _ w).alloc (Nat.le_refl _) o1).alloc (by simp) o2
  have HWo := hideE (fun o1 o2 => rwords_any i.words j.words _ _ hl _ (hSa.below (hb0 o1 o2)) (hSb.below (hb0 o1 o2)))
  have HB0 := hideE hb0
  clear hSa hSb hl hb0
  unfold imgV
  by_cases h1 : i.base = j.base
  · have q1 : ((i.base.toNat : Int) == (j.base.toNat : Int)) = true := by rw [h1]; simp
    by_cases h2 : i.entry = j.entry
    · have q2 : ((i.entry.toNat : Int) == (j.entry.toNat : Int)) = true := by rw [h2]; simp
      by_cases h3 : i.seg = j.seg
      · have q3 : ((i.seg : Int) == (j.seg : Int)) = true := by rw [h3]; simp
        have hd : Hid (decide (i = j) = decide (i.words = j.words)) := decide_eq_decide.2 ⟨fun e => by rw [e], fun e => by cases i; cases j; simp_all⟩
        rw [hd.out]
        clear h1 h2 h3
        go_enter Try.func14, Try.ntmps14
        go_wp2_with (go_at_call 23; refine (HWo.out _ _).mono ?_; rintro e w1 ⟨rfl, hb1⟩)
        go_ret
        exact ⟨rfl, (HB0.out _ _).trans (hb1.mono (by simp; omega))⟩
      · have q3 : ((i.seg : Int) == (j.seg : Int)) = false := by rw [beq_eq_false_iff_ne]; omega
        have hd := hideE (img_ne (.inr (.inr (.inl h3))) : decide (i = j) = false)
        rw [hd.out]
        clear h1 h2 h3
        go_enter Try.func14, Try.ntmps14
        go_wp2_with fail
        go_ret
        exact ⟨rfl, HB0.out _ _⟩
    · have q2 : ((i.entry.toNat : Int) == (j.entry.toNat : Int)) = false := by rw [beq_eq_false_iff_ne]; intro e; exact h2 (BitVec.eq_of_toNat_eq (by omega))
      have hd := hideE (img_ne (.inr (.inl h2)) : decide (i = j) = false)
      rw [hd.out]
      clear h1 h2
      go_enter Try.func14, Try.ntmps14
      go_wp2_with fail
      go_ret
      exact ⟨rfl, HB0.out _ _⟩
  · have q1 : ((i.base.toNat : Int) == (j.base.toNat : Int)) = false := by rw [beq_eq_false_iff_ne]; intro e; exact h1 (BitVec.eq_of_toNat_eq (by omega))
    have hd := hideE (img_ne (.inl h1) : decide (i = j) = false)
    rw [hd.out]
    clear h1
    go_enter Try.func14, Try.ntmps14
    go_wp2_with fail
    go_ret
    exact ⟨rfl, HB0.out _ _⟩
/-- The k-th word stands at the address. -/
def Hit (i : Img) (a : BitVec 32) (k : Nat) : Prop := (a.toNat : Int) % 4 = 0 ∧ (a.toNat : Int) = (i.base.toNat : Int) + 4 * (k : Int)
theorem hit_yes {i : Img} {a : BitVec 32} {k n : Nat} (hi : i.ok) (h : Hit i a k) (hk : i.words[k]? = some n) : atB i a = true ∧ atW i a = n := by
  have hlt := (List.getElem?_eq_some_iff.1 hk).1
  obtain ⟨h1, h2⟩ := h
  have hB : atB i a = true := by unfold atB; exact decide_eq_true ⟨by omega, by omega, by omega⟩
  refine ⟨hB, ?_⟩
  unfold atW
  rw [if_pos hB, show (a.toNat - i.base.toNat) / 4 = k by omega, List.getD_eq_getElem?_getD, hk]; rfl
theorem hit_no {i : Img} {a : BitVec 32} (hi : i.ok) (h : ∀ k, k < i.words.length → ¬ Hit i a k) : atB i a = false ∧ atW i a = 0 := by
  have hB : atB i a = false := by
    by_cases e : atB i a = true
    · obtain ⟨n, _, _, hlt, hle, h4⟩ := at_yes e
      have := hi.1
      exact absurd ⟨by omega, by omega⟩ (h _ hlt)
    · simpa using e
  exact ⟨hB, at_no hB⟩
set_option maxHeartbeats 4000000 in
set_option maxRecDepth 100000 in
theorem rat7_any (i : Img) (v : Value) (a : BitVec 32) (hi : i.ok) (w : World) (hS : SlW w v i.words) :
    Calls Try.prog 11 #[imgV i v, .int .u32 (a.toNat : Int)] w fun e w' => e = .returned (.tuple #[.int .u32 (atW i a : Int), .bool (atB i a)]) ∧ Below w.heap.size w w' := by
  obtain ⟨p, c, rfl, _⟩ := hS.len
  have ha := a.isLt
  have hb := i.base.isLt
  have hl := hi.2.2.1
  have hbx := heap_alloc_new w (.cells #[.int .u32 (i.base.toNat : Int), .int .u32 (i.entry.toNat : Int), .slice p i.words.length c, .int .i64 (i.seg : Int)] 29)
  have hb0 : Below w.heap.size w (w.alloc (.cells #[.int .u32 (i.base.toNat : Int), .int .u32 (i.entry.toNat : Int), .slice p i.words.length c, .int .i64 (i.seg : Int)] 29)) := (Below.refl _ w).alloc (Nat.le_refl _) _
  have HS := hideE (hS.below hb0)
  have HI := hideE hi
  clear hS hi
  unfold imgV
  obtain ⟨nn, hnn⟩ : ∃ n, i.words.length = n := ⟨_, rfl⟩
  rw [hnn] at hl hbx hb0 HS ⊢
  have HN := hideE hnn
  clear hnn
  obtain ⟨⟨a0, a1, a2, a3⟩, _⟩ := four hbx
  have HB0 := hideE hb0
  clear hbx hb0
  go_enter Try.func11, Try.ntmps11
  go_wp2_with fail
  generalize w.alloc (.cells #[.int .u32 (i.base.toNat : Int), .int .u32 (i.entry.toNat : Int), .slice p nn c, .int .i64 (i.seg : Int)] 29) = wa at *
  go_loopg [6] nn (fun q j wr => ∃ k : Nat, k + q = nn ∧ j = .int .i64 (k : Int) ∧ (∀ m, m < k → ¬ Hit i a m) ∧ wr = wa)
  case atStart => exact ⟨0, by omega, rfl, fun m hm => by omega, rfl⟩
  case round =>
    obtain ⟨k, hkq, rfl, hno, rfl⟩ := hrel
    have HNo := hideE hno
    clear hno
    cases gk with
    | zero =>
      obtain rfl : k = nn := by omega
      have hk : ¬ ((k : Int) < (k : Int)) := by omega
      go_wp2_with fail
      go_ret2
      obtain ⟨e1, e2⟩ := hit_no HI.out (by rw [HN.out]; exact HNo.out)
      exact ⟨by rw [e1, e2]; rfl, HB0.out⟩
    | succ q =>
      have hk : ((k : Int) < (nn : Int)) := by omega
      have hk0 : (0 : Int) ≤ (k : Int) := by omega
      have hwk : IntKind.i64.wrap ((k : Int) + 1) = (k : Int) + 1 := wrE (by omega) (by omega)
      have hw4 : IntKind.i64.wrap (4 * (k : Int)) = 4 * (k : Int) := wrE (by omega) (by omega)
      have hws : IntKind.i64.wrap ((i.base.toNat : Int) + 4 * (k : Int)) = (i.base.toNat : Int) + 4 * (k : Int) := wrE (by omega) (by omega)
      obtain ⟨u, hu⟩ : ∃ u, i.words[k]? = some u := ⟨i.words[k]'(by rw [HN.out]; omega), List.getElem?_eq_getElem (by rw [HN.out]; omega)⟩
      obtain ⟨g, o, rfl, c3⟩ := HS.out.at hu
      have Hu := hideE hu
      clear hu
      have next : ¬ Hit i a k → ∀ m, m < k + 1 → ¬ Hit i a m := fun hn m hm => by
        by_cases e : m = k
        · subst e; exact hn
        · exact HNo.out m (by omega)
      have NX := hideE next
      clear next
      by_cases h4 : (a.toNat : Int) % 4 = 0
      · by_cases he : (a.toNat : Int) = (i.base.toNat : Int) + 4 * (k : Int)
        · have hq : ((a.toNat : Int) == (i.base.toNat : Int) + 4 * (k : Int)) = true := by rw [he]; simp
          obtain ⟨e1, e2⟩ := hit_yes HI.out ⟨h4, he⟩ Hu.out
          have E1 := hideE e1
          have E2 := hideE e2
          clear he e1 e2
          go_wp2_with fail
          go_ret2
          exact ⟨by rw [E1.out, E2.out]; rfl, HB0.out⟩
        · have hq : ((a.toNat : Int) == (i.base.toNat : Int) + 4 * (k : Int)) = false := by rw [beq_eq_false_iff_ne]; exact he
          have HE := hideE he
          clear he
          go_wp2_with fail
          go_roundg q
          case measure => omega
          case rel => exact ⟨k + 1, by omega, by simp, NX.out (fun h => HE.out h.2), rfl⟩
      · have H4 := hideE h4
        go_wp2_with fail
        go_roundg q
        case measure => omega
        case rel => exact ⟨k + 1, by omega, by simp, NX.out (fun h => H4.out h.1), rfl⟩
end Go.Proofs.Ytkfomhllaogplaa
