/-
  Contract of the document's Check.
-/
import Derived.Test.YtkfomhllaogplaaEV
namespace Go.Proofs.Ytkfomhllaogplaa
open Go.RowKit El Go.Lib
open Classical
set_option linter.unusedSimpArgs false

theorem apart_iff {g h : Seg} (hg : g.may) (hh : h.may) : g.apart h ↔ ¬ ((g.addr.toNat : Int) ≤ h.addr.toNat ∧ (h.addr.toNat : Int) < g.addr.toNat + g.size) ∧ ¬ ((h.addr.toNat : Int) ≤ g.addr.toNat ∧ (g.addr.toNat : Int) < h.addr.toNat + h.size) := by
  obtain ⟨g1, _⟩ := hg
  obtain ⟨h1, _⟩ := hh
  unfold Seg.apart; omega
/-- No segment of the first k has the first address of another one. -/
def Clear (l : List Seg) (k : Nat) : Prop := ∀ i j g h, i < k → i ≠ j → l[i]? = some g → l[j]? = some h → ¬ ((g.addr.toNat : Int) ≤ h.addr.toNat ∧ (h.addr.toNat : Int) < g.addr.toNat + g.size)
theorem Clear.all {l : List Seg} (hm : ∀ g ∈ l, g.may) (h : Clear l l.length) : ¬ Meets l := fun ⟨i, j, g, k, hij, hi, hj, hn⟩ =>
  hn ((apart_iff (hm g (List.mem_of_getElem? hi)) (hm k (List.mem_of_getElem? hj))).2 ⟨h i j g k (List.getElem?_eq_some_iff.1 hi).1 (by omega) hi hj, h j i k g (List.getElem?_eq_some_iff.1 hj).1 (by omega) hj hi⟩)
theorem meets_of {l : List Seg} (hm : ∀ g ∈ l, g.may) {i j : Nat} {g h : Seg} (hij : i ≠ j) (hi : l[i]? = some g) (hj : l[j]? = some h) (hin : (g.addr.toNat : Int) ≤ h.addr.toNat ∧ (h.addr.toNat : Int) < g.addr.toNat + g.size) : Meets l := by
  rcases Nat.lt_or_gt_of_ne hij with hlt | hlt
  · exact ⟨j, i, h, g, hlt, hj, hi, fun ha => ((apart_iff (hm h (List.mem_of_getElem? hj)) (hm g (List.mem_of_getElem? hi))).1 ha).2 hin⟩
  · exact ⟨i, j, g, h, hlt, hi, hj, fun ha => ((apart_iff (hm g (List.mem_of_getElem? hi)) (hm h (List.mem_of_getElem? hj))).1 ha).1 hin⟩
theorem not_may_cases {g : Seg} (h : ¬ g.may) : g.size < 1 ∨ (1 ≤ g.size ∧ 16777216 < g.size) ∨ (1 ≤ g.size ∧ g.size ≤ 16777216 ∧ g.size < g.data.length) ∨ (1 ≤ g.size ∧ g.size ≤ 16777216 ∧ (g.data.length : Int) ≤ g.size ∧ g.flags < 0) ∨ (1 ≤ g.size ∧ g.size ≤ 16777216 ∧ (g.data.length : Int) ≤ g.size ∧ 0 ≤ g.flags ∧ 7 < g.flags) ∨ (1 ≤ g.size ∧ g.size ≤ 16777216 ∧ (g.data.length : Int) ≤ g.size ∧ 0 ≤ g.flags ∧ g.flags ≤ 7 ∧ 4294967296 < (g.addr.toNat : Int) + g.size) := by
  unfold Seg.may at h
  omega
set_option maxRecDepth 100000 in
set_option maxHeartbeats 3000000 in
theorem rcheck_any (x : Prg) (v : Value) (hl : x.segs.length ≤ 1000) (w : World) (hS : SlS w v x.segs) :
    Calls Try.prog 26 #[prgV x v] w fun e w' => e = .returned (.int .i64 (chk x.segs)) ∧ Below w.heap.size w w' := by
  obtain ⟨p, c, rfl, _⟩ := hS.len
  have HS := hideE hS
  have L0 := hideE (LookAt.new w (x.entry.toNat : Int) (x.flags.toNat : Int) (.slice p x.segs.length c))
  clear hS
  unfold prgV
  by_cases h16 : 16 < x.segs.length
  · have hd : decide ((16 : Int) < (x.segs.length : Int)) = true := decide_eq_true (by omega)
    have HC := hideE (chk_big h16)
    go_enter Try.func26, Try.ntmps26
    go_wp2_with fail
    go_ret
    exact ⟨congrArg (fun t => Ending.returned (.int .i64 t)) HC.out.symm, L0.out.low⟩
  · have hd : decide ((16 : Int) < (x.segs.length : Int)) = false := decide_eq_false (by omega)
    have h16' : x.segs.length ≤ 16 := by omega
    clear h16
    go_enter Try.func26, Try.ntmps26
    go_wp2_with fail
    go_loopg [3] x.segs.length (fun q i wr => ∃ k : Nat, k + q = x.segs.length ∧ i = .int .i64 (k : Int) ∧ (∀ j y, j < k → x.segs[j]? = some y → y.may) ∧ LookAt w (x.entry.toNat : Int) (x.flags.toNat : Int) (.slice p x.segs.length c) wr)
    case atStart => exact ⟨0, by omega, rfl, fun j y hj => by omega, L0.out⟩
    case round =>
      clear L0
      obtain ⟨k, hkq, rfl, hmay, hL⟩ := hrel
      have HM := hideE hmay
      obtain ⟨⟨a0, a1, a2⟩, _⟩ := three hL.box
      clear hmay
      cases gk with
      | zero =>
        have hk : ¬ ((k : Int) < (x.segs.length : Int)) := by omega
        have hall : ∀ y ∈ x.segs, y.may := fun y hy => by
          obtain ⟨j, hj⟩ := List.getElem?_of_mem hy
          exact HM.out j y (by have := (List.getElem?_eq_some_iff.1 hj).1; omega) hj
        have HA := hideE hall
        have HL := hideE hL
        clear hall HM hL
        go_wp2_with fail
        clear a0 a1 a2
        go_loopg [5] x.segs.length (fun q i wr => ∃ k : Nat, k + q = x.segs.length ∧ i = .int .i64 (k : Int) ∧ Clear x.segs k ∧ LookAt w (x.entry.toNat : Int) (x.flags.toNat : Int) (.slice p x.segs.length c) wr)
        case atStart => exact ⟨0, by omega, rfl, fun i j g h hi => by omega, HL.out⟩
        case round =>
          clear HL hkq hk
          obtain ⟨k, hkq, rfl, hcl, hL⟩ := hrel
          have HCl := hideE hcl
          obtain ⟨⟨a0, a1, a2⟩, _⟩ := three hL.box
          have HL := hideE hL
          clear hcl hL
          cases gk with
          | zero =>
            obtain rfl : k = x.segs.length := by omega
            have hk : ¬ ((x.segs.length : Int) < (x.segs.length : Int)) := by omega
            have HC := hideE (chk_ok h16' HA.out (HCl.out.all HA.out))
            go_wp2_with fail
            go_ret
            exact ⟨congrArg (fun t => Ending.returned (.int .i64 t)) HC.out.symm, HL.out.low⟩
          | succ q =>
            have hk : ((k : Int) < (x.segs.length : Int)) := by omega
            have hk0 : (0 : Int) ≤ (k : Int) := by omega
            have hwk : IntKind.i64.wrap ((k : Int) + 1) = (k : Int) + 1 := wrE (by omega) (by omega)
            obtain ⟨y, hy⟩ : ∃ y, x.segs[k]? = some y := ⟨x.segs[k]'(by omega), List.getElem?_eq_getElem (by omega)⟩
            obtain ⟨gb, go, rfl⟩ := sls_some HS.out (by omega)
            have Hy := hideE hy
            have hym := HA.out y (List.mem_of_getElem? hy)
            obtain ⟨m1, m2, _, _, _, m6⟩ := hym
            have hya := y.addr.isLt
            have hwa : IntKind.i64.wrap (y.addr.toNat : Int) = (y.addr.toNat : Int) := wrE (by omega) (by omega)
            have hws : IntKind.i64.wrap ((y.addr.toNat : Int) + y.size) = (y.addr.toNat : Int) + y.size := wrE (by omega) (by omega)
            clear hy
            go_wp2_with fail
            clear a0 a1 a2
            go_loopg [6] x.segs.length (fun q i wr => ∃ m : Nat, m + q = x.segs.length ∧ i = .int .i64 (m : Int) ∧ (∀ j h, j < m → k ≠ j → x.segs[j]? = some h → ¬ ((y.addr.toNat : Int) ≤ h.addr.toNat ∧ (h.addr.toNat : Int) < y.addr.toNat + y.size)) ∧ LookAt w (x.entry.toNat : Int) (x.flags.toNat : Int) (.slice (some ⟨gb, go, none⟩) x.segs.length c) wr)
            case atStart => exact ⟨0, by omega, rfl, fun j h hj => by omega, HL.out⟩
            case round =>
              clear HL
              obtain ⟨m, hmq, rfl, hno, hL⟩ := hrel
              have HNo := hideE hno
              obtain ⟨⟨a0, a1, a2⟩, _⟩ := three hL.box
              clear hno
              cases gk with
              | zero =>
                have hm9 : ¬ ((m : Int) < (x.segs.length : Int)) := by omega
                have HL := hideE hL
                clear hL
                go_wp2_with fail
                go_roundg q
                case measure => omega
                case rel => exact ⟨k + 1, by omega, by simp, fun i j g h hi hij hg hh => by
                  by_cases e : i = k
                  · subst e; rw [Hy.out] at hg; injection hg with hg; subst hg
                    exact HNo.out j h (by have := (List.getElem?_eq_some_iff.1 hh).1; omega) hij hh
                  · exact HCl.out i j g h (by omega) hij hg hh, HL.out⟩
              | succ r =>
                have hm1 : ((m : Int) < (x.segs.length : Int)) := by omega
                have hm0 : (0 : Int) ≤ (m : Int) := by omega
                have hwm : IntKind.i64.wrap ((m : Int) + 1) = (m : Int) + 1 := wrE (by omega) (by omega)
                obtain ⟨z, hz⟩ : ∃ z, x.segs[m]? = some z := ⟨x.segs[m]'(by omega), List.getElem?_eq_getElem (by omega)⟩
                obtain ⟨hc, _⟩ := slsCells (HS.out.below hL.low) (by omega)
                obtain ⟨b0, b1, b2, b3⟩ := SlS.at hc k y Hy.out
                obtain ⟨d0, d1, d2, d3⟩ := SlS.at hc m z hz
                have hza := z.addr.isLt
                have hwz : IntKind.i64.wrap (z.addr.toNat : Int) = (z.addr.toNat : Int) := wrE (by omega) (by omega)
                have Hz := hideE hz
                have HL := hideE hL
                clear hL hc hz
                go_wp2_with fail
                go_quiet (fail)
                have HLq := hideE (HL.out.below (drew_low wr nq _))
                have e2 : (wr.drewN nq).cell? ⟨w.heap.size, 2, none⟩ = some (.slice (some ⟨gb, go, none⟩) x.segs.length c) := a2
                have e3 : (wr.drewN nq).cell? ⟨gb, go + k * 4 + 2, none⟩ = some (.int .i64 y.size) := b2
                by_cases hkm : k = m
                · have hq : ((k : Int) != (m : Int)) = false := by rw [hkm]; exact bne_self_eq_false _
                  go_wp2_with fail
                  go_roundg r
                  case measure => omega
                  case rel => exact ⟨m + 1, by omega, by simp, fun j h hj hkj hh => HNo.out j h (by omega) hkj hh, HLq.out⟩
                · have hq : ((k : Int) != (m : Int)) = true := bne_iff_ne.2 (by omega)
                  by_cases ha : (y.addr.toNat : Int) ≤ (z.addr.toNat : Int)
                  · by_cases hb : (z.addr.toNat : Int) < (y.addr.toNat : Int) + y.size
                    · have HC := hideE (chk_meet h16' HA.out (meets_of HA.out hkm Hy.out Hz.out ⟨ha, hb⟩))
                      go_wp2_with fail
                      go_ret
                      exact ⟨congrArg (fun t => Ending.returned (.int .i64 t)) HC.out.symm, HLq.out.low⟩
                    · have Hn : Hid (¬ ((y.addr.toNat : Int) ≤ z.addr.toNat ∧ (z.addr.toNat : Int) < y.addr.toNat + y.size)) := fun h => hb h.2
                      go_wp2_with fail
                      go_roundg r
                      case measure => omega
                      case rel => exact ⟨m + 1, by omega, by simp, fun j h hj hkj hh => by
                        by_cases e : j = m
                        · subst e; rw [Hz.out] at hh; injection hh with hh; subst hh; exact Hn.out
                        · exact HNo.out j h (by omega) hkj hh, HLq.out⟩
                  · have Hn : Hid (¬ ((y.addr.toNat : Int) ≤ z.addr.toNat ∧ (z.addr.toNat : Int) < y.addr.toNat + y.size)) := fun h => ha h.1
                    go_wp2_with fail
                    go_roundg r
                    case measure => omega
                    case rel => exact ⟨m + 1, by omega, by simp, fun j h hj hkj hh => by
                      by_cases e : j = m
                      · subst e; rw [Hz.out] at hh; injection hh with hh; subst hh; exact Hn.out
                      · exact HNo.out j h (by omega) hkj hh, HLq.out⟩
      | succ q =>
        have hk : ((k : Int) < (x.segs.length : Int)) := by omega
        have hk0 : (0 : Int) ≤ (k : Int) := by omega
        have hwk : IntKind.i64.wrap ((k : Int) + 1) = (k : Int) + 1 := wrE (by omega) (by omega)
        obtain ⟨y, hy⟩ : ∃ y, x.segs[k]? = some y := ⟨x.segs[k]'(by omega), List.getElem?_eq_getElem (by omega)⟩
        obtain ⟨g, o, rfl⟩ := sls_some HS.out (by omega)
        obtain ⟨hc, _⟩ := slsCells (HS.out.below hL.low) (by omega)
        obtain ⟨b0, b1, b2, b3⟩ := SlS.at hc k y hy
        have Hy := hideE hy
        have HL := hideE hL
        have hya := y.addr.isLt
        have hwa : IntKind.i64.wrap (y.addr.toNat : Int) = (y.addr.toNat : Int) := wrE (by omega) (by omega)
        clear hy hc hL
        by_cases hm : y.may
        · have Hm := hideE hm
          obtain ⟨m1, m2, m3, m4, m5, m6⟩ := hm
          have n1 : ¬ (y.size < 1) := by omega
          have n2 : ¬ ((16777216 : Int) < y.size) := by omega
          have n3 : ¬ (y.size < (y.data.length : Int)) := by omega
          have n4 : ¬ (y.flags < 0) := by omega
          have n5 : ¬ ((7 : Int) < y.flags) := by omega
          have n6 : ¬ ((4294967296 : Int) < (y.addr.toNat : Int) + y.size) := by omega
          have hws : IntKind.i64.wrap ((y.addr.toNat : Int) + y.size) = (y.addr.toNat : Int) + y.size := wrE (by omega) (by omega)
          go_wp2_with fail
          go_roundg q
          case measure => omega
          case rel => exact ⟨k + 1, by omega, by simp, fun j y' hj hy' => by
            by_cases e : j = k
            · subst e; rw [Hy.out] at hy'; injection hy' with hy'; subst hy'; exact Hm.out
            · exact HM.out j y' (by omega) hy', HL.out.below ((Below.refl _ wr).alloc (Nat.le_refl _) _)⟩
        · have HC := hideE (chk_form h16' (List.mem_of_getElem? Hy.out) hm)
          have hbL := hideE (HL.out.below ((Below.refl _ wr).alloc (Nat.le_refl _) (.cells #[.int .u32 (y.addr.toNat : Int), .string ⟨y.data.toArray⟩, .int .i64 y.size, .int .i64 y.flags] 42))).low
          rcases not_may_cases hm with h | ⟨s1, h⟩ | ⟨s1, s2, h⟩ | ⟨s1, s2, s3, h⟩ | ⟨s1, s2, s3, s4, h⟩ | ⟨s1, s2, s3, s4, s5, h⟩
          · clear hm
            go_wp2_with fail
            go_ret
            exact ⟨congrArg (fun t => Ending.returned (.int .i64 t)) HC.out.symm, hbL.out⟩
          · clear hm
            have n1 : ¬ (y.size < 1) := by omega
            go_wp2_with fail
            go_ret
            exact ⟨congrArg (fun t => Ending.returned (.int .i64 t)) HC.out.symm, hbL.out⟩
          · clear hm
            have n1 : ¬ (y.size < 1) := by omega
            have n2 : ¬ ((16777216 : Int) < y.size) := by omega
            go_wp2_with fail
            go_ret
            exact ⟨congrArg (fun t => Ending.returned (.int .i64 t)) HC.out.symm, hbL.out⟩
          · clear hm
            have n1 : ¬ (y.size < 1) := by omega
            have n2 : ¬ ((16777216 : Int) < y.size) := by omega
            have n3 : ¬ (y.size < (y.data.length : Int)) := by omega
            go_wp2_with fail
            go_ret
            exact ⟨congrArg (fun t => Ending.returned (.int .i64 t)) HC.out.symm, hbL.out⟩
          · clear hm
            have n1 : ¬ (y.size < 1) := by omega
            have n2 : ¬ ((16777216 : Int) < y.size) := by omega
            have n3 : ¬ (y.size < (y.data.length : Int)) := by omega
            have n4 : ¬ (y.flags < 0) := by omega
            go_wp2_with fail
            go_ret
            exact ⟨congrArg (fun t => Ending.returned (.int .i64 t)) HC.out.symm, hbL.out⟩
          · clear hm
            have n1 : ¬ (y.size < 1) := by omega
            have n2 : ¬ ((16777216 : Int) < y.size) := by omega
            have n3 : ¬ (y.size < (y.data.length : Int)) := by omega
            have n4 : ¬ (y.flags < 0) := by omega
            have n5 : ¬ ((7 : Int) < y.flags) := by omega
            have hws : IntKind.i64.wrap ((y.addr.toNat : Int) + y.size) = (y.addr.toNat : Int) + y.size := wrE (by omega) (by omega)
            go_wp2_with fail
            go_ret
            exact ⟨congrArg (fun t => Ending.returned (.int .i64 t)) HC.out.symm, hbL.out⟩
end Go.Proofs.Ytkfomhllaogplaa
