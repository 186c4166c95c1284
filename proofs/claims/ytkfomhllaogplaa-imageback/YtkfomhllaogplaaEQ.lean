/-
  Contracts of the document's Same and of the law's one.
-/
import Derived.Test.YtkfomhllaogplaaEO
namespace Go.Proofs.Ytkfomhllaogplaa
open Go.RowKit El Go.Lib
open Classical
set_option linter.unusedSimpArgs false

/-- Two programs in boxes. -/
structure TwoP (w : World) (x y : Prg) (a b : Value) (W : World) : Prop where
  b1 : W.heap[w.heap.size]? = some (.cells #[.int .u32 (x.entry.toNat : Int), .int .u32 (x.flags.toNat : Int), a] 25 (0, 0))
  b2 : W.heap[w.heap.size + 1]? = some (.cells #[.int .u32 (y.entry.toNat : Int), .int .u32 (y.flags.toNat : Int), b] 25 (0, 0))
  low : Below w.heap.size w W
theorem TwoP.new (w : World) (x y : Prg) (a b : Value) : TwoP w x y a b ((w.alloc (.cells #[.int .u32 (x.entry.toNat : Int), .int .u32 (x.flags.toNat : Int), a] 25)).alloc (.cells #[.int .u32 (y.entry.toNat : Int), .int .u32 (y.flags.toNat : Int), b] 25)) := by
  refine ⟨?_, ?_, ((Below.refl _ w).alloc (Nat.le_refl _) _).alloc (by simp) _⟩
  · rw [Below.heap_alloc _ _ _ (by simp)]; exact heap_alloc_new w _
  · have := heap_alloc_new (w.alloc (.cells #[.int .u32 (x.entry.toNat : Int), .int .u32 (x.flags.toNat : Int), a] 25)) (.cells #[.int .u32 (y.entry.toNat : Int), .int .u32 (y.flags.toNat : Int), b] 25)
    simpa using this
theorem TwoP.below {w W W' : World} {x y : Prg} {a b : Value} (h : TwoP w x y a b W) (hb : Below W.heap.size W W') : TwoP w x y a b W' := ⟨keptN hb h.b1, keptN hb h.b2, h.low.trans (hb.mono h.low.size)⟩
theorem TwoP.drew {w W : World} {x y : Prg} {a b : Value} (h : TwoP w x y a b W) : TwoP w x y a b W.drew := h.below (Below.refl _ W).drew
theorem prg_ne {x y : Prg} (h : x.entry ≠ y.entry ∨ x.flags ≠ y.flags ∨ x.segs ≠ y.segs) : decide (x = y) = false := decide_eq_false fun e => by subst e; rcases h with h | h | h <;> exact h rfl
theorem bv_ne {a b : BitVec 32} (h : a ≠ b) : ((a.toNat : Int) != (b.toNat : Int)) = true := bne_iff_ne.2 fun e => h (BitVec.eq_of_toNat_eq (by omega))
theorem bv_eq {a b : BitVec 32} (h : a = b) : ((a.toNat : Int) != (b.toNat : Int)) = false := by rw [h]; exact bne_self_eq_false _
theorem take_stepS {la lb : List Seg} {i : Nat} {x : Seg} (h : la.take i = lb.take i) (ha : la[i]? = some x) (hb : lb[i]? = some x) : la.take (i + 1) = lb.take (i + 1) := by
  rw [List.take_add_one, List.take_add_one, h, ha, hb]
set_option maxRecDepth 100000 in
set_option maxHeartbeats 4000000 in
theorem same_any (x y : Prg) (a b : Value) (hl : x.segs.length ≤ 1000000) (w : World) (hSa : SlS w a x.segs) (hSb : SlS w b y.segs) :
    Calls Try.prog 18 #[prgV x a, prgV y b] w fun e w' => e = .returned (.bool (decide (x = y))) ∧ Below w.heap.size w w' := by
  obtain ⟨p, c, rfl, _⟩ := hSa.len
  obtain ⟨p', c', rfl, _⟩ := hSb.len
  have HA := hideE hSa
  have HB := hideE hSb
  have T0 := hideE (TwoP.new w x y (.slice p x.segs.length c) (.slice p' y.segs.length c'))
  clear hSa hSb
  unfold prgV
  by_cases h1 : x.entry = y.entry
  · have q1 := bv_eq h1
    by_cases h2 : x.flags = y.flags
    · have q2 := bv_eq h2
      by_cases h3 : x.segs.length = y.segs.length
      · obtain ⟨nn, hnn⟩ : ∃ n, x.segs.length = n := ⟨_, rfl⟩
        have hmm : y.segs.length = nn := by omega
        rw [hnn, hmm] at T0
        rw [hnn, hmm]
        rw [hnn] at hl
        have HN := hideE hnn
        have HM := hideE hmm
        have hd : Hid (decide (x = y) = decide (x.segs = y.segs)) := decide_eq_decide.2 ⟨fun e => by rw [e], fun e => by cases x; cases y; simp_all⟩
        have hneq := neqS
        have H1 := hideE h1
        have H2 := hideE h2
        rw [hd.out]
        clear h1 h2 h3 hnn hmm
        go_enter Try.func18, Try.ntmps18
        go_wp2_with fail
        refine gen_world (TwoP w x y (.slice p nn c) (.slice p' nn c')) T0.out ?_
        intro wa hT
        go_loopg [5] nn (fun q i wr => ∃ k : Nat, k + q = nn ∧ i = .int .i64 (k : Int) ∧ x.segs.take k = y.segs.take k ∧ TwoP w x y (.slice p nn c) (.slice p' nn c') wr)
        case atStart => exact ⟨0, by omega, rfl, by simp, hT⟩
        case round =>
          clear hT
          obtain ⟨k, hkq, rfl, htk, hT⟩ := hrel
          have HT := hideE htk
          clear htk
          obtain ⟨⟨_, _, a2⟩, _⟩ := three hT.b1
          obtain ⟨⟨_, _, c2⟩, _⟩ := three hT.b2
          cases gk with
          | zero =>
            obtain rfl : k = nn := by omega
            have hk : ¬ ((k : Int) < (k : Int)) := by omega
            have HTw := hideE hT
            clear hT
            go_wp2_with fail
            go_ret
            exact ⟨congrArg (fun t => Ending.returned (.bool t)) (decide_eq_true (by
              have := HT.out
              rwa [List.take_of_length_le (by rw [HN.out]; omega), List.take_of_length_le (by rw [HM.out]; omega)] at this)).symm, HTw.out.low⟩
          | succ q =>
            have hk : ((k : Int) < (nn : Int)) := by omega
            have hk0 : (0 : Int) ≤ (k : Int) := by omega
            have hwk : IntKind.i64.wrap ((k : Int) + 1) = (k : Int) + 1 := wrE (by omega) (by omega)
            obtain ⟨u, hu⟩ : ∃ u, x.segs[k]? = some u := ⟨x.segs[k]'(by rw [HN.out]; omega), List.getElem?_eq_getElem (by rw [HN.out]; omega)⟩
            obtain ⟨v, hv⟩ : ∃ v, y.segs[k]? = some v := ⟨y.segs[k]'(by rw [HM.out]; omega), List.getElem?_eq_getElem (by rw [HM.out]; omega)⟩
            obtain ⟨g, o, rfl⟩ := sls_some HA.out (by rw [HN.out]; omega)
            obtain ⟨g', o', rfl⟩ := sls_some HB.out (by rw [HM.out]; omega)
            obtain ⟨hc, _⟩ := slsCells (HA.out.below hT.low) (by rw [HN.out]; omega)
            obtain ⟨hc', _⟩ := slsCells (HB.out.below hT.low) (by rw [HM.out]; omega)
            obtain ⟨a3, a4, a5, a6⟩ := SlS.at hc k u hu
            obtain ⟨c3, c4, c5, c6⟩ := SlS.at hc' k v hv
            have Hu := hideE hu
            have Hv := hideE hv
            have HTw := hideE hT
            clear hu hv hc hc' hT
            cases u with
            | mk ad da n f =>
            cases v with
            | mk ad' da' n' f' =>
            simp only [] at a3 a4 a5 a6 c3 c4 c5 c6
            go_wp2_with fail
            go_quiet (fail)
            go_wp2_with fail
            · have hs : (!sameS ⟨ad, da, n, f⟩ ⟨ad', da', n', f'⟩) = true := by assumption
              have hs' : sameS ⟨ad, da, n, f⟩ ⟨ad', da', n', f'⟩ = false := by simpa using hs
              have hn : ¬ Seg.mk ad da n f = ⟨ad', da', n', f'⟩ := of_decide_eq_false hs'
              go_ret
              exact ⟨congrArg (fun t => Ending.returned (.bool t)) (decide_eq_false (fun e => hn (by have := Hu.out; rw [e, Hv.out] at this; injection this with this; exact this.symm))).symm, (HTw.out.below (drew_low _ _ _)).low⟩
            · have hs : (!sameS ⟨ad, da, n, f⟩ ⟨ad', da', n', f'⟩) = false := by assumption
              have hs' : sameS ⟨ad, da, n, f⟩ ⟨ad', da', n', f'⟩ = true := by simpa using hs
              have he : Seg.mk ad da n f = ⟨ad', da', n', f'⟩ := of_decide_eq_true hs'
              go_roundg q
              case measure => omega
              case rel => exact ⟨k + 1, by omega, by simp, take_stepS HT.out Hu.out (by rw [he]; exact Hv.out), HTw.out.below (drew_low _ _ _)⟩
      · have q3 : ((x.segs.length : Int) != (y.segs.length : Int)) = true := bne_iff_ne.2 (by omega)
        have hd := hideE (prg_ne (.inr (.inr (fun e => h3 (by rw [e])))) : decide (x = y) = false)
        rw [hd.out]
        clear h1 h2 h3
        go_enter Try.func18, Try.ntmps18
        go_wp2_with fail
        go_ret
        exact ⟨rfl, T0.out.low⟩
    · have q2 := bv_ne h2
      have hd := hideE (prg_ne (.inr (.inl h2)) : decide (x = y) = false)
      rw [hd.out]
      clear h1 h2
      go_enter Try.func18, Try.ntmps18
      go_wp2_with fail
      go_ret
      exact ⟨rfl, T0.out.low⟩
  · have q1 := bv_ne h1
    have hd := hideE (prg_ne (.inl h1) : decide (x = y) = false)
    rw [hd.out]
    go_enter Try.func18, Try.ntmps18
    go_wp2_with fail
    go_ret
    exact ⟨rfl, T0.out.low⟩
/-- The program of one segment. -/
def oneP : Prg := ⟨(BitVec.ofNat 32 4096), (BitVec.ofNat 32 0), [⟨(BitVec.ofNat 32 4096), [97, 98, 99, 100], 8, 5⟩]⟩
end Go.Proofs.Ytkfomhllaogplaa
