/-
  Contract of the document's nums: the numbers in a text.
  Contract of the document's fill: the instruction of a kind with its numbers. (Written by tools/mk_bb.py.)
-/

import Derived.Test.YtdjladaefoedfaaDoorZA3
import Derived.Test.YtdjladaefoedfaaDoorZA5
import Derived.Test.YtdjladaefoedfaaDoorZA8
import Derived.Test.YtdjladaefoedfaaDoorZr
namespace Go.Proofs.YtdjladaefoedfaaDoor
open Go.RowKit Ip As Go.Lib

theorem digit_any (b : UInt8) (w : World) : Calls Tryd.prog 52 #[.int .u8 (b.toNat : Int)] w fun e w' => e = .returned (.bool (isDig b)) ∧ w' = w := by
  by_cases h : 48 ≤ b.toNat
  · have h1 : (48 : Int) ≤ (b.toNat : Int) := by omega
    by_cases h2 : b.toNat ≤ 57
    · have h3 : (b.toNat : Int) ≤ 57 := by omega
      go_enter Tryd.func52, Tryd.ntmps52
      go_wp2
      go_ret
      exact ⟨ret_bool (by unfold isDig; exact (decide_eq_true ⟨h, h2⟩).symm), rfl⟩
    · have h3 : ¬ (b.toNat : Int) ≤ 57 := by omega
      go_enter Tryd.func52, Tryd.ntmps52
      go_wp2
      go_ret
      exact ⟨ret_bool (by unfold isDig; exact (decide_eq_false (fun x => h2 x.2)).symm), rfl⟩
  · have h1 : ¬ (48 : Int) ≤ (b.toNat : Int) := by omega
    go_enter Tryd.func52, Tryd.ntmps52
    go_wp2
    go_ret
    exact ⟨ret_bool (by unfold isDig; exact (decide_eq_false (fun x => h x.1)).symm), rfl⟩
def inI (l : List Int) : List Value := l.map fun n => .int .i64 n
/-- Is the byte ahead of place i a '-'? -/
def ng (s : List UInt8) (i : Nat) : Bool := decide (0 < i ∧ s[i - 1]? = some 45)
theorem rn_m0 (neg : Bool) (l : List UInt8) : rn 0 neg l = [] := rnF_m0 _ _ _
theorem drop_cons (s : List UInt8) (i : Nat) (b : UInt8) (h : s[i]? = some b) : s.drop i = b :: s.drop (i + 1) := by
  obtain ⟨hlt, hg⟩ := List.getElem?_eq_some_iff.1 h
  rw [List.drop_eq_getElem_cons hlt, hg]
theorem dgs_at (P : List UInt8) (j : Nat) (h : j < (dgs P).length) : j < 7 ∧ ∃ b, P[j]? = some b ∧ isDig b = true ∧ (dgs P)[j]? = some b := by
  unfold dgs at h ⊢
  rw [List.length_take] at h
  obtain ⟨b, hb, hd⟩ := tw_at P j (by omega)
  refine ⟨by omega, b, hb, hd, ?_⟩
  rw [List.getElem?_take_of_lt (by omega)]
  have hlt : j < (P.takeWhile isDig).length := by omega
  have := List.takeWhile_prefix (p := isDig) (l := P)
  obtain ⟨r, hr⟩ := this
  rw [← hr, List.getElem?_append_left hlt] at hb
  exact hb
theorem dgs_stop (P : List UInt8) (b : UInt8) (h : P[(dgs P).length]? = some b) : isDig b = false ∨ (dgs P).length = 7 := by
  unfold dgs at h ⊢
  rw [List.length_take] at h ⊢
  by_cases h7 : 7 ≤ (P.takeWhile isDig).length
  · exact .inr (by omega)
  · rw [Nat.min_eq_right (by omega)] at h
    exact .inl (tw_end P b h)
theorem dgs_le (P : List UInt8) : (dgs P).length ≤ 7 ∧ (dgs P).length ≤ P.length := by
  unfold dgs; rw [List.length_take]
  have := tw_le P; omega
theorem val_step (D : List UInt8) (j : Nat) (b : UInt8) (h : D[j]? = some b) : valD (D.take (j + 1)) = 10 * valD (D.take j) + (b.toNat - 48) := by
  unfold valD; rw [List.take_add_one, h]; exact valF_snoc 0 (D.take j) b
theorem val_bound (D : List UInt8) : ∀ j, (∀ b ∈ D, isDig b = true) → valD (D.take j) ≤ 10 ^ (min j D.length) - 1 := by
  intro j hD
  induction j with
  | zero => simp [valD, valF]
  | succ j ih =>
    cases hb : D[j]? with
    | none =>
      have hl : D.length ≤ j := List.getElem?_eq_none_iff.1 hb
      rw [List.take_of_length_le (by omega)] at ih ⊢
      rw [Nat.min_eq_right hl] at ih; rw [Nat.min_eq_right (by omega)]; exact ih
    | some b =>
      have hlt := (List.getElem?_eq_some_iff.1 hb).1
      rw [val_step D j b hb, Nat.min_eq_left (by omega), Nat.pow_succ]
      rw [Nat.min_eq_left (by omega)] at ih
      have hd := of_decide_eq_true (hD b (List.mem_of_getElem? hb))
      have hp : 1 ≤ 10 ^ j := Nat.pow_pos (by decide)
      omega
theorem dgs_all (P : List UInt8) : ∀ b ∈ dgs P, isDig b = true := fun b hb => by
  unfold dgs at hb
  have := List.mem_of_mem_take hb
  clear hb
  induction P with
  | nil => simp at this
  | cons a P ih =>
    rw [List.takeWhile_cons] at this
    cases ha : isDig a
    · rw [ha] at this; simp at this
    · rw [ha] at this
      rcases List.mem_cons.1 this with h | h
      · rw [h]; exact ha
      · exact ih h
theorem val_small (P : List UInt8) (j : Nat) : valD ((dgs P).take j) ≤ 9999999 := by
  have := val_bound (dgs P) j (dgs_all P)
  have h7 := (dgs_le P).1
  have : 10 ^ (min j (dgs P).length) ≤ 10 ^ 7 := Nat.pow_le_pow_right (by decide) (by omega)
  omega
theorem inI_app (a b : List Int) : inI (a ++ b) = inI a ++ inI b := by unfold inI; simp
theorem infoI : (Tryd.prog.info? 3).map (fun i => (i.zero, i.size, i.bytes)) = some (some (.int .i64 0), 1, 8) := by kernel_rfl
theorem cell_one_new (w : World) (n : Nat) (hn : n = w.heap.size) (a : Value) (t : TypeId) : ∀ j u, [a][j]? = some u → (w.alloc (.cells #[a] t)).cell? ((⟨n, 0, none⟩ : Addr).add j) = some u := by
  subst hn
  intro j u hj
  match j, hj with
  | 0, hj => simp at hj; subst hj; simp [Addr.add]
theorem ng_next (s : List UInt8) (i : Nat) (b : UInt8) (h : s[i]? = some b) : ng s (i + 1) = decide (b.toNat = 45) := by
  unfold ng
  rw [Nat.add_sub_cancel, h]
  by_cases hb : b = 45
  · subst hb; simp
  · have : b.toNat ≠ 45 := fun e => hb (UInt8.toNat_inj.1 e)
    simp [hb, this]
theorem ng_dig (s : List UInt8) (i : Nat) (b : UInt8) (h : s[i]? = some b) (hd : isDig b = true) : ng s (i + 1) = false := by
  rw [ng_next s i b h]
  have := of_decide_eq_true hd
  exact decide_eq_false (by omega)

set_option maxHeartbeats 8000000 in
set_option maxRecDepth 1000000 in
theorem rnums_any (s : List UInt8) (hs : s.length ≤ 100000) (w : World) :
    Calls Tryd.prog 32 #[.string ⟨s.toArray⟩] w fun e w' => ∃ v, e = .returned v ∧ w'.ownsRow w.heap.size 3 1 v (rn 4 false s).length (inI (rn 4 false s)) ∧ Below w.heap.size w w' := by
  obtain ⟨i0, hi0, hz0, hz1, hz2⟩ := info_partsA infoI
  go_enter Tryd.func32, Tryd.ntmps32
  go_wp2
  go_loopg [3, 4] s.length (fun q v i wr => ∃ (k : Nat) (out : List Int), k ≤ s.length ∧ s.length - k ≤ q ∧ i = .int .i64 (k : Int) ∧ out.length ≤ 4 ∧ out ++ rn (4 - out.length) (ng s k) (s.drop k) = rn 4 false s ∧ wr.ownsRow w.heap.size 3 1 v out.length (inI out) ∧ Below w.heap.size w wr)
  case atStart => exact ⟨0, [], by omega, by omega, rfl, by simp, by simp [ng], ⟨rfl, .inr ⟨w.heap.size, 0, #[], rfl, Nat.le_refl _, heap_alloc_new _ _, Nat.le_refl _, Nat.zero_le _, rfl, rfl⟩⟩, (Below.refl _ _).alloc (Nat.le_refl _) _⟩
  case round =>
    obtain ⟨i, out, his, hiq, rfl, ho4, hrn, hrow, hb⟩ := hrel
    obtain ⟨wo, hwo⟩ : ∃ wo, wo = wr := ⟨_, rfl⟩
    subst hwo
    have HR : Hid (out ++ rn (4 - out.length) (ng s i) (s.drop i) = rn 4 false s) := hrn
    have hlen : ∃ p c, u3 = .slice p out.length c := by
      rcases hrow.2 with ⟨h, h0⟩ | ⟨g, cap, cur, h1, _⟩
      · exact ⟨_, _, by rw [h, h0]⟩
      · exact ⟨_, _, h1⟩
    obtain ⟨pp, cc, rfl⟩ := hlen
    clear hrn
    by_cases hil : i < s.length
    · have hil1 : ((i : Int) < (s.length : Int)) := by omega
      by_cases h4 : out.length < 4
      · have h41 : ((out.length : Int) < 4) := by omega
        obtain ⟨b0, hb0⟩ : ∃ b, s[i]? = some b := ⟨s[i]'hil, List.getElem?_eq_getElem hil⟩
        have HP : Hid (s.drop i = b0 :: s.drop (i + 1)) := drop_cons s i b0 hb0
        obtain ⟨D, hD⟩ : ∃ D, D = dgs (s.drop i) := ⟨_, rfl⟩
        have hD7 : D.length ≤ 7 := by rw [hD]; exact (dgs_le _).1
        have hDl : i + D.length ≤ s.length := by have := (dgs_le (s.drop i)).2; rw [← hD, List.length_drop] at this; omega
        have HAt : Hid (∀ j, j < D.length → ∃ b, s[i + j]? = some b ∧ isDig b = true ∧ D[j]? = some b) := fun j hj => by
          rw [hD] at hj ⊢
          obtain ⟨_, b, h1, h2, h3⟩ := dgs_at (s.drop i) j hj
          rw [List.getElem?_drop] at h1
          exact ⟨b, h1, h2, h3⟩
        have HSt : Hid (∀ b, s[i + D.length]? = some b → isDig b = false ∨ D.length = 7) := fun b hb => by
          rw [hD] at hb ⊢
          exact dgs_stop (s.drop i) b (by rw [List.getElem?_drop]; exact hb)
        have HVs : Hid (∀ j, valD (D.take j) ≤ 9999999) := fun j => by rw [hD]; exact val_small _ j
        have Hb0 : Hid (s[i]? = some b0) := hb0
        have HD : Hid (D = dgs (s.drop i)) := hD
        have hw7 : IntKind.i64.wrap ((i : Int) + 7) = (i : Int) + 7 := wr64 (by omega) (by omega)
        have hwi : IntKind.i64.wrap ((i : Int) + 1) = (i : Int) + 1 := wr64 (by omega) (by omega)
        clear hD hb0
        go_wp2_with fail
        go_loopw [5, 6] (fun n k wx => ∃ j : Nat, j ≤ D.length ∧ n = .int .i64 (valD (D.take j) : Int) ∧ k = .int .i64 ((i : Int) + (j : Int)) ∧ wx = wo) (fun _ k _ => (((i : Int) + (D.length : Int)) - Go.RowKit.intOf k).toNat)
        case atStart => exact ⟨0, by omega, rfl, by simp, rfl⟩
        case round =>
          obtain ⟨j, hj, rfl, rfl, hw⟩ := hrel
          rw [hw]
          clear hw
          by_cases hjd : j < D.length
          · obtain ⟨b, hb1, hb2, hb3⟩ := HAt.out j hjd
            have hix := idx_at s (i + j) ((i : Int) + (j : Int)) b (by simp) hb1
            have hk1 : ((i : Int) + (j : Int)) < (s.length : Int) := by omega
            have hk7 : ((i : Int) + (j : Int)) < (i : Int) + 7 := by omega
            have hv := val_step D j b hb3
            have hvs := HVs.out j
            have hd2 := of_decide_eq_true hb2
            have hw1 : IntKind.i64.wrap (10 * (valD (D.take j) : Int)) = 10 * (valD (D.take j) : Int) := wr64 (by omega) (by omega)
            have hw0 : IntKind.i64.wrap (b.toNat : Int) = (b.toNat : Int) := wr64 (by omega) (by omega)
            have hw2 : IntKind.i64.wrap (10 * (valD (D.take j) : Int) + (b.toNat : Int)) = 10 * (valD (D.take j) : Int) + (b.toNat : Int) := wr64 (by omega) (by omega)
            have hw3 : IntKind.i64.wrap (10 * (valD (D.take j) : Int) + (b.toNat : Int) - 48) = 10 * (valD (D.take j) : Int) + (b.toNat : Int) - 48 := wr64 (by omega) (by omega)
            have hw4 : IntKind.i64.wrap ((i : Int) + (j : Int) + 1) = (i : Int) + (j : Int) + 1 := wr64 (by omega) (by omega)
            have HV : Hid ((valD (D.take (j + 1)) : Int) = 10 * (valD (D.take j) : Int) + (b.toNat : Int) - 48) := by show _ = _; rw [hv]; omega
            clear hv hvs hd2 hb1 hb3
            go_wp2_with (go_at_call 52; refine (digit_any _ _).mono ?_; rintro e wd ⟨rfl, hwd⟩; rw [hwd]; clear hwd wd)
            go_roundw
            case measure => show (((i : Int) + (D.length : Int)) - ((i : Int) + (j : Int) + 1)).toNat < (((i : Int) + (D.length : Int)) - ((i : Int) + (j : Int))).toNat; omega
            exact ⟨j + 1, by omega, by rw [HV.out], by simp; omega, trivial⟩
          · obtain rfl : j = D.length := by omega
            rw [List.take_length]
            have hvs : valD D ≤ 9999999 := by have := HVs.out D.length; rwa [List.take_length] at this
            clear hjd hj
            by_cases hke : i + D.length < s.length
            · obtain ⟨be, hbe⟩ : ∃ b, s[i + D.length]? = some b := ⟨s[i + D.length]'hke, List.getElem?_eq_getElem hke⟩
              have hix := idx_at s (i + D.length) ((i : Int) + (D.length : Int)) be (by simp) hbe
              have hk1 : ((i : Int) + (D.length : Int)) < (s.length : Int) := by omega
              have hst := HSt.out be hbe
              clear hbe
              cases hbd : isDig be
              · clear hst
                by_cases hD0 : D.length = 0
                · have hgt : ¬ ((i : Int) < (i : Int) + (D.length : Int)) := by omega
                  have HN0 : Hid (D.length = 0) := hD0
                  clear hD0
                  go_wp2_with (go_at_call 52; refine (digit_any _ _).mono ?_; rintro e wd ⟨rfl, hwd⟩; rw [hwd]; clear hwd wd)
                  go_roundg (s.length - (i + 1))
                  case measure => omega
                  case rel =>
                    refine ⟨i + 1, out, by omega, by omega, by simp, ho4, ?_, hrow, hb⟩
                    have hnd : isDig b0 = false := by
                      cases h : isDig b0
                      · rfl
                      · have := dgs_pos b0 (s.drop (i + 1)) h
                        rw [← HP.out, ← HD.out] at this
                        have := HN0.out; omega
                    obtain ⟨m, hm⟩ : ∃ m, 4 - out.length = m + 1 := ⟨3 - out.length, by omega⟩
                    have := HR.out
                    rw [HP.out, hm, rn_skip m _ b0 _ hnd] at this
                    rw [hm, ng_next s i b0 Hb0.out]; exact this
                by_cases hiz : i = 0
                · have Hiz : Hid (i = 0) := hiz
                  have hi00 : ¬ ((0 : Int) < (i : Int)) := by omega
                  have HNg : Hid (ng s i = false) := decide_eq_false (by omega)
                  clear hiz
                  have hgt : ((i : Int) < (i : Int) + (D.length : Int)) := by omega
                  have HN1 : Hid (1 ≤ D.length) := by show _ ≤ _; omega
                  clear hD0
                  go_wp2_with (first
                    | (go_at_call 52; refine (digit_any _ _).mono ?_; rintro e wd ⟨rfl, hwd⟩; rw [hwd]; clear hwd wd)
                    | (at_builtin; (refine wpList_append_own _ rfl _ _ 52 rfl w.heap.size 3 i0 (.int .i64 0) 1 8 Tryd.underlying52 hi0 hz0 hz1 hz2 rfl (by decide) _ _ _ rfl (hrow.alloc _) ⟨wo.heap.size, 0, none⟩ 1 1 [.int .i64 ((valD D : Int))] rfl rfl (cell_one_new _ _ (by first | rfl | simp) _ _) (by first | rfl | simp [Value.oneCell']) (by unfold maxLen; omega) (by omega) (by have := hb.size; first | omega | (simp; omega)) ?_; intro v' w3 hown' hgrow hnil')))
                  go_roundg (s.length - (i + D.length))
                  case measure => have := HN1.out; omega
                  case rel =>
                    have hb3 : Below w.heap.size w w3 := (hb.alloc hb.size _).grown hgrow (by have := hb.size; simp; omega) (fun j e => (hrow.lt j e).1)
                    refine ⟨i + D.length, out ++ [(valD D : Int)], by omega, by omega, by simp, by simp; omega, ?_, by rw [inI_app, List.length_append]; exact hown', hb3⟩
                    have h1 := HN1.out
                    obtain ⟨bl, hl1, hl2, _⟩ := HAt.out (D.length - 1) (by omega)
                    have hng : ng s (i + D.length) = false := by
                      have := ng_dig s (i + (D.length - 1)) bl hl1 hl2
                      rwa [show i + (D.length - 1) + 1 = i + D.length by omega] at this
                    have hd0 : isDig b0 = true := by
                      obtain ⟨b, hx1, hx2, _⟩ := HAt.out 0 (by omega)
                      rw [Nat.add_zero, Hb0.out] at hx1
                      injection hx1 with hx1; rw [hx1]; exact hx2
                    obtain ⟨m, hm⟩ : ∃ m, 4 - out.length = m + 1 := ⟨3 - out.length, by omega⟩
                    have := HR.out
                    rw [HP.out, hm, rn_num m _ b0 _ hd0, ← HP.out, ← HD.out, HNg.out, List.drop_drop] at this
                    rw [List.length_append, List.length_singleton, show 4 - (out.length + 1) = m by omega, hng, List.append_assoc]
                    simpa [sg] using this
                by_cases hm45 : s[i - 1]? = some 45
                · have hi1 : ((0 : Int) < (i : Int)) := by omega
                  have hii : IntKind.i64.wrap ((i : Int) - 1) = (i : Int) - 1 := wr64 (by omega) (by omega)
                  have hix1 := idx_at s (i - 1) ((i : Int) - 1) 45 (by omega) hm45
                  have hq45 : (((45 : UInt8).toNat : Int) == 45) = true := rfl
                  have hngv : IntKind.i64.wrap (-(valD D : Int)) = -(valD D : Int) := wr64 (by omega) (by omega)
                  have HNg : Hid (ng s i = true) := decide_eq_true ⟨by omega, hm45⟩
                  clear hm45
                  have hgt : ((i : Int) < (i : Int) + (D.length : Int)) := by omega
                  have HN1 : Hid (1 ≤ D.length) := by show _ ≤ _; omega
                  clear hD0
                  go_wp2_with (first
                    | (go_at_call 52; refine (digit_any _ _).mono ?_; rintro e wd ⟨rfl, hwd⟩; rw [hwd]; clear hwd wd)
                    | (at_builtin; (refine wpList_append_own _ rfl _ _ 52 rfl w.heap.size 3 i0 (.int .i64 0) 1 8 Tryd.underlying52 hi0 hz0 hz1 hz2 rfl (by decide) _ _ _ rfl (hrow.alloc _) ⟨wo.heap.size, 0, none⟩ 1 1 [.int .i64 (-(valD D : Int))] rfl rfl (cell_one_new _ _ (by first | rfl | simp) _ _) (by first | rfl | simp [Value.oneCell']) (by unfold maxLen; omega) (by omega) (by have := hb.size; first | omega | (simp; omega)) ?_; intro v' w3 hown' hgrow hnil')))
                  go_roundg (s.length - (i + D.length))
                  case measure => have := HN1.out; omega
                  case rel =>
                    have hb3 : Below w.heap.size w w3 := (hb.alloc hb.size _).grown hgrow (by have := hb.size; simp; omega) (fun j e => (hrow.lt j e).1)
                    refine ⟨i + D.length, out ++ [-(valD D : Int)], by omega, by omega, by simp, by simp; omega, ?_, by rw [inI_app, List.length_append]; exact hown', hb3⟩
                    have h1 := HN1.out
                    obtain ⟨bl, hl1, hl2, _⟩ := HAt.out (D.length - 1) (by omega)
                    have hng : ng s (i + D.length) = false := by
                      have := ng_dig s (i + (D.length - 1)) bl hl1 hl2
                      rwa [show i + (D.length - 1) + 1 = i + D.length by omega] at this
                    have hd0 : isDig b0 = true := by
                      obtain ⟨b, hx1, hx2, _⟩ := HAt.out 0 (by omega)
                      rw [Nat.add_zero, Hb0.out] at hx1
                      injection hx1 with hx1; rw [hx1]; exact hx2
                    obtain ⟨m, hm⟩ : ∃ m, 4 - out.length = m + 1 := ⟨3 - out.length, by omega⟩
                    have := HR.out
                    rw [HP.out, hm, rn_num m _ b0 _ hd0, ← HP.out, ← HD.out, HNg.out, List.drop_drop] at this
                    rw [List.length_append, List.length_singleton, show 4 - (out.length + 1) = m by omega, hng, List.append_assoc]
                    simpa [sg] using this
                · have hi1 : ((0 : Int) < (i : Int)) := by omega
                  have hii : IntKind.i64.wrap ((i : Int) - 1) = (i : Int) - 1 := wr64 (by omega) (by omega)
                  obtain ⟨c, hc⟩ : ∃ c, s[i - 1]? = some c := ⟨s[i - 1]'(by omega), List.getElem?_eq_getElem (by omega)⟩
                  have hix1 := idx_at s (i - 1) ((i : Int) - 1) c (by omega) hc
                  have hc45 : c ≠ 45 := fun e => hm45 (by rw [hc, e])
                  have hq45 : ((c.toNat : Int) == 45) = false := beq_eq_false_iff_ne.2 (fun e => hc45 (UInt8.toNat_inj.1 (by show c.toNat = 45; omega)))
                  have HNg : Hid (ng s i = false) := decide_eq_false (fun h => hm45 h.2)
                  clear hm45 hc hc45
                  have hgt : ((i : Int) < (i : Int) + (D.length : Int)) := by omega
                  have HN1 : Hid (1 ≤ D.length) := by show _ ≤ _; omega
                  clear hD0
                  go_wp2_with (first
                    | (go_at_call 52; refine (digit_any _ _).mono ?_; rintro e wd ⟨rfl, hwd⟩; rw [hwd]; clear hwd wd)
                    | (at_builtin; (refine wpList_append_own _ rfl _ _ 52 rfl w.heap.size 3 i0 (.int .i64 0) 1 8 Tryd.underlying52 hi0 hz0 hz1 hz2 rfl (by decide) _ _ _ rfl (hrow.alloc _) ⟨wo.heap.size, 0, none⟩ 1 1 [.int .i64 ((valD D : Int))] rfl rfl (cell_one_new _ _ (by first | rfl | simp) _ _) (by first | rfl | simp [Value.oneCell']) (by unfold maxLen; omega) (by omega) (by have := hb.size; first | omega | (simp; omega)) ?_; intro v' w3 hown' hgrow hnil')))
                  go_roundg (s.length - (i + D.length))
                  case measure => have := HN1.out; omega
                  case rel =>
                    have hb3 : Below w.heap.size w w3 := (hb.alloc hb.size _).grown hgrow (by have := hb.size; simp; omega) (fun j e => (hrow.lt j e).1)
                    refine ⟨i + D.length, out ++ [(valD D : Int)], by omega, by omega, by simp, by simp; omega, ?_, by rw [inI_app, List.length_append]; exact hown', hb3⟩
                    have h1 := HN1.out
                    obtain ⟨bl, hl1, hl2, _⟩ := HAt.out (D.length - 1) (by omega)
                    have hng : ng s (i + D.length) = false := by
                      have := ng_dig s (i + (D.length - 1)) bl hl1 hl2
                      rwa [show i + (D.length - 1) + 1 = i + D.length by omega] at this
                    have hd0 : isDig b0 = true := by
                      obtain ⟨b, hx1, hx2, _⟩ := HAt.out 0 (by omega)
                      rw [Nat.add_zero, Hb0.out] at hx1
                      injection hx1 with hx1; rw [hx1]; exact hx2
                    obtain ⟨m, hm⟩ : ∃ m, 4 - out.length = m + 1 := ⟨3 - out.length, by omega⟩
                    have := HR.out
                    rw [HP.out, hm, rn_num m _ b0 _ hd0, ← HP.out, ← HD.out, HNg.out, List.drop_drop] at this
                    rw [List.length_append, List.length_singleton, show 4 - (out.length + 1) = m by omega, hng, List.append_assoc]
                    simpa [sg] using this
              · have hD7' : D.length = 7 := by
                  rcases hst with h | h
                  · rw [hbd] at h; cases h
                  · exact h
                have hk7 : ¬ (((i : Int) + (D.length : Int)) < (i : Int) + 7) := by omega
                have hD0 : ¬ D.length = 0 := by omega
                clear hst hD7'
                by_cases hiz : i = 0
                · have Hiz : Hid (i = 0) := hiz
                  have hi00 : ¬ ((0 : Int) < (i : Int)) := by omega
                  have HNg : Hid (ng s i = false) := decide_eq_false (by omega)
                  clear hiz
                  have hgt : ((i : Int) < (i : Int) + (D.length : Int)) := by omega
                  have HN1 : Hid (1 ≤ D.length) := by show _ ≤ _; omega
                  clear hD0
                  go_wp2_with (first
                    | (go_at_call 52; refine (digit_any _ _).mono ?_; rintro e wd ⟨rfl, hwd⟩; rw [hwd]; clear hwd wd)
                    | (at_builtin; (refine wpList_append_own _ rfl _ _ 52 rfl w.heap.size 3 i0 (.int .i64 0) 1 8 Tryd.underlying52 hi0 hz0 hz1 hz2 rfl (by decide) _ _ _ rfl (hrow.alloc _) ⟨wo.heap.size, 0, none⟩ 1 1 [.int .i64 ((valD D : Int))] rfl rfl (cell_one_new _ _ (by first | rfl | simp) _ _) (by first | rfl | simp [Value.oneCell']) (by unfold maxLen; omega) (by omega) (by have := hb.size; first | omega | (simp; omega)) ?_; intro v' w3 hown' hgrow hnil')))
                  go_roundg (s.length - (i + D.length))
                  case measure => have := HN1.out; omega
                  case rel =>
                    have hb3 : Below w.heap.size w w3 := (hb.alloc hb.size _).grown hgrow (by have := hb.size; simp; omega) (fun j e => (hrow.lt j e).1)
                    refine ⟨i + D.length, out ++ [(valD D : Int)], by omega, by omega, by simp, by simp; omega, ?_, by rw [inI_app, List.length_append]; exact hown', hb3⟩
                    have h1 := HN1.out
                    obtain ⟨bl, hl1, hl2, _⟩ := HAt.out (D.length - 1) (by omega)
                    have hng : ng s (i + D.length) = false := by
                      have := ng_dig s (i + (D.length - 1)) bl hl1 hl2
                      rwa [show i + (D.length - 1) + 1 = i + D.length by omega] at this
                    have hd0 : isDig b0 = true := by
                      obtain ⟨b, hx1, hx2, _⟩ := HAt.out 0 (by omega)
                      rw [Nat.add_zero, Hb0.out] at hx1
                      injection hx1 with hx1; rw [hx1]; exact hx2
                    obtain ⟨m, hm⟩ : ∃ m, 4 - out.length = m + 1 := ⟨3 - out.length, by omega⟩
                    have := HR.out
                    rw [HP.out, hm, rn_num m _ b0 _ hd0, ← HP.out, ← HD.out, HNg.out, List.drop_drop] at this
                    rw [List.length_append, List.length_singleton, show 4 - (out.length + 1) = m by omega, hng, List.append_assoc]
                    simpa [sg] using this
                by_cases hm45 : s[i - 1]? = some 45
                · have hi1 : ((0 : Int) < (i : Int)) := by omega
                  have hii : IntKind.i64.wrap ((i : Int) - 1) = (i : Int) - 1 := wr64 (by omega) (by omega)
                  have hix1 := idx_at s (i - 1) ((i : Int) - 1) 45 (by omega) hm45
                  have hq45 : (((45 : UInt8).toNat : Int) == 45) = true := rfl
                  have hngv : IntKind.i64.wrap (-(valD D : Int)) = -(valD D : Int) := wr64 (by omega) (by omega)
                  have HNg : Hid (ng s i = true) := decide_eq_true ⟨by omega, hm45⟩
                  clear hm45
                  have hgt : ((i : Int) < (i : Int) + (D.length : Int)) := by omega
                  have HN1 : Hid (1 ≤ D.length) := by show _ ≤ _; omega
                  clear hD0
                  go_wp2_with (first
                    | (go_at_call 52; refine (digit_any _ _).mono ?_; rintro e wd ⟨rfl, hwd⟩; rw [hwd]; clear hwd wd)
                    | (at_builtin; (refine wpList_append_own _ rfl _ _ 52 rfl w.heap.size 3 i0 (.int .i64 0) 1 8 Tryd.underlying52 hi0 hz0 hz1 hz2 rfl (by decide) _ _ _ rfl (hrow.alloc _) ⟨wo.heap.size, 0, none⟩ 1 1 [.int .i64 (-(valD D : Int))] rfl rfl (cell_one_new _ _ (by first | rfl | simp) _ _) (by first | rfl | simp [Value.oneCell']) (by unfold maxLen; omega) (by omega) (by have := hb.size; first | omega | (simp; omega)) ?_; intro v' w3 hown' hgrow hnil')))
                  go_roundg (s.length - (i + D.length))
                  case measure => have := HN1.out; omega
                  case rel =>
                    have hb3 : Below w.heap.size w w3 := (hb.alloc hb.size _).grown hgrow (by have := hb.size; simp; omega) (fun j e => (hrow.lt j e).1)
                    refine ⟨i + D.length, out ++ [-(valD D : Int)], by omega, by omega, by simp, by simp; omega, ?_, by rw [inI_app, List.length_append]; exact hown', hb3⟩
                    have h1 := HN1.out
                    obtain ⟨bl, hl1, hl2, _⟩ := HAt.out (D.length - 1) (by omega)
                    have hng : ng s (i + D.length) = false := by
                      have := ng_dig s (i + (D.length - 1)) bl hl1 hl2
                      rwa [show i + (D.length - 1) + 1 = i + D.length by omega] at this
                    have hd0 : isDig b0 = true := by
                      obtain ⟨b, hx1, hx2, _⟩ := HAt.out 0 (by omega)
                      rw [Nat.add_zero, Hb0.out] at hx1
                      injection hx1 with hx1; rw [hx1]; exact hx2
                    obtain ⟨m, hm⟩ : ∃ m, 4 - out.length = m + 1 := ⟨3 - out.length, by omega⟩
                    have := HR.out
                    rw [HP.out, hm, rn_num m _ b0 _ hd0, ← HP.out, ← HD.out, HNg.out, List.drop_drop] at this
                    rw [List.length_append, List.length_singleton, show 4 - (out.length + 1) = m by omega, hng, List.append_assoc]
                    simpa [sg] using this
                · have hi1 : ((0 : Int) < (i : Int)) := by omega
                  have hii : IntKind.i64.wrap ((i : Int) - 1) = (i : Int) - 1 := wr64 (by omega) (by omega)
                  obtain ⟨c, hc⟩ : ∃ c, s[i - 1]? = some c := ⟨s[i - 1]'(by omega), List.getElem?_eq_getElem (by omega)⟩
                  have hix1 := idx_at s (i - 1) ((i : Int) - 1) c (by omega) hc
                  have hc45 : c ≠ 45 := fun e => hm45 (by rw [hc, e])
                  have hq45 : ((c.toNat : Int) == 45) = false := beq_eq_false_iff_ne.2 (fun e => hc45 (UInt8.toNat_inj.1 (by show c.toNat = 45; omega)))
                  have HNg : Hid (ng s i = false) := decide_eq_false (fun h => hm45 h.2)
                  clear hm45 hc hc45
                  have hgt : ((i : Int) < (i : Int) + (D.length : Int)) := by omega
                  have HN1 : Hid (1 ≤ D.length) := by show _ ≤ _; omega
                  clear hD0
                  go_wp2_with (first
                    | (go_at_call 52; refine (digit_any _ _).mono ?_; rintro e wd ⟨rfl, hwd⟩; rw [hwd]; clear hwd wd)
                    | (at_builtin; (refine wpList_append_own _ rfl _ _ 52 rfl w.heap.size 3 i0 (.int .i64 0) 1 8 Tryd.underlying52 hi0 hz0 hz1 hz2 rfl (by decide) _ _ _ rfl (hrow.alloc _) ⟨wo.heap.size, 0, none⟩ 1 1 [.int .i64 ((valD D : Int))] rfl rfl (cell_one_new _ _ (by first | rfl | simp) _ _) (by first | rfl | simp [Value.oneCell']) (by unfold maxLen; omega) (by omega) (by have := hb.size; first | omega | (simp; omega)) ?_; intro v' w3 hown' hgrow hnil')))
                  go_roundg (s.length - (i + D.length))
                  case measure => have := HN1.out; omega
                  case rel =>
                    have hb3 : Below w.heap.size w w3 := (hb.alloc hb.size _).grown hgrow (by have := hb.size; simp; omega) (fun j e => (hrow.lt j e).1)
                    refine ⟨i + D.length, out ++ [(valD D : Int)], by omega, by omega, by simp, by simp; omega, ?_, by rw [inI_app, List.length_append]; exact hown', hb3⟩
                    have h1 := HN1.out
                    obtain ⟨bl, hl1, hl2, _⟩ := HAt.out (D.length - 1) (by omega)
                    have hng : ng s (i + D.length) = false := by
                      have := ng_dig s (i + (D.length - 1)) bl hl1 hl2
                      rwa [show i + (D.length - 1) + 1 = i + D.length by omega] at this
                    have hd0 : isDig b0 = true := by
                      obtain ⟨b, hx1, hx2, _⟩ := HAt.out 0 (by omega)
                      rw [Nat.add_zero, Hb0.out] at hx1
                      injection hx1 with hx1; rw [hx1]; exact hx2
                    obtain ⟨m, hm⟩ : ∃ m, 4 - out.length = m + 1 := ⟨3 - out.length, by omega⟩
                    have := HR.out
                    rw [HP.out, hm, rn_num m _ b0 _ hd0, ← HP.out, ← HD.out, HNg.out, List.drop_drop] at this
                    rw [List.length_append, List.length_singleton, show 4 - (out.length + 1) = m by omega, hng, List.append_assoc]
                    simpa [sg] using this
            · have hk1 : ¬ (((i : Int) + (D.length : Int)) < (s.length : Int)) := by omega
              have hD0 : ¬ D.length = 0 := by omega
              by_cases hiz : i = 0
              · have Hiz : Hid (i = 0) := hiz
                have hi00 : ¬ ((0 : Int) < (i : Int)) := by omega
                have HNg : Hid (ng s i = false) := decide_eq_false (by omega)
                clear hiz
                have hgt : ((i : Int) < (i : Int) + (D.length : Int)) := by omega
                have HN1 : Hid (1 ≤ D.length) := by show _ ≤ _; omega
                clear hD0
                go_wp2_with (first
                  | (go_at_call 52; refine (digit_any _ _).mono ?_; rintro e wd ⟨rfl, hwd⟩; rw [hwd]; clear hwd wd)
                  | (at_builtin; (refine wpList_append_own _ rfl _ _ 52 rfl w.heap.size 3 i0 (.int .i64 0) 1 8 Tryd.underlying52 hi0 hz0 hz1 hz2 rfl (by decide) _ _ _ rfl (hrow.alloc _) ⟨wo.heap.size, 0, none⟩ 1 1 [.int .i64 ((valD D : Int))] rfl rfl (cell_one_new _ _ (by first | rfl | simp) _ _) (by first | rfl | simp [Value.oneCell']) (by unfold maxLen; omega) (by omega) (by have := hb.size; first | omega | (simp; omega)) ?_; intro v' w3 hown' hgrow hnil')))
                go_roundg (s.length - (i + D.length))
                case measure => have := HN1.out; omega
                case rel =>
                  have hb3 : Below w.heap.size w w3 := (hb.alloc hb.size _).grown hgrow (by have := hb.size; simp; omega) (fun j e => (hrow.lt j e).1)
                  refine ⟨i + D.length, out ++ [(valD D : Int)], by omega, by omega, by simp, by simp; omega, ?_, by rw [inI_app, List.length_append]; exact hown', hb3⟩
                  have h1 := HN1.out
                  obtain ⟨bl, hl1, hl2, _⟩ := HAt.out (D.length - 1) (by omega)
                  have hng : ng s (i + D.length) = false := by
                    have := ng_dig s (i + (D.length - 1)) bl hl1 hl2
                    rwa [show i + (D.length - 1) + 1 = i + D.length by omega] at this
                  have hd0 : isDig b0 = true := by
                    obtain ⟨b, hx1, hx2, _⟩ := HAt.out 0 (by omega)
                    rw [Nat.add_zero, Hb0.out] at hx1
                    injection hx1 with hx1; rw [hx1]; exact hx2
                  obtain ⟨m, hm⟩ : ∃ m, 4 - out.length = m + 1 := ⟨3 - out.length, by omega⟩
                  have := HR.out
                  rw [HP.out, hm, rn_num m _ b0 _ hd0, ← HP.out, ← HD.out, HNg.out, List.drop_drop] at this
                  rw [List.length_append, List.length_singleton, show 4 - (out.length + 1) = m by omega, hng, List.append_assoc]
                  simpa [sg] using this
              by_cases hm45 : s[i - 1]? = some 45
              · have hi1 : ((0 : Int) < (i : Int)) := by omega
                have hii : IntKind.i64.wrap ((i : Int) - 1) = (i : Int) - 1 := wr64 (by omega) (by omega)
                have hix1 := idx_at s (i - 1) ((i : Int) - 1) 45 (by omega) hm45
                have hq45 : (((45 : UInt8).toNat : Int) == 45) = true := rfl
                have hngv : IntKind.i64.wrap (-(valD D : Int)) = -(valD D : Int) := wr64 (by omega) (by omega)
                have HNg : Hid (ng s i = true) := decide_eq_true ⟨by omega, hm45⟩
                clear hm45
                have hgt : ((i : Int) < (i : Int) + (D.length : Int)) := by omega
                have HN1 : Hid (1 ≤ D.length) := by show _ ≤ _; omega
                clear hD0
                go_wp2_with (first
                  | (go_at_call 52; refine (digit_any _ _).mono ?_; rintro e wd ⟨rfl, hwd⟩; rw [hwd]; clear hwd wd)
                  | (at_builtin; (refine wpList_append_own _ rfl _ _ 52 rfl w.heap.size 3 i0 (.int .i64 0) 1 8 Tryd.underlying52 hi0 hz0 hz1 hz2 rfl (by decide) _ _ _ rfl (hrow.alloc _) ⟨wo.heap.size, 0, none⟩ 1 1 [.int .i64 (-(valD D : Int))] rfl rfl (cell_one_new _ _ (by first | rfl | simp) _ _) (by first | rfl | simp [Value.oneCell']) (by unfold maxLen; omega) (by omega) (by have := hb.size; first | omega | (simp; omega)) ?_; intro v' w3 hown' hgrow hnil')))
                go_roundg (s.length - (i + D.length))
                case measure => have := HN1.out; omega
                case rel =>
                  have hb3 : Below w.heap.size w w3 := (hb.alloc hb.size _).grown hgrow (by have := hb.size; simp; omega) (fun j e => (hrow.lt j e).1)
                  refine ⟨i + D.length, out ++ [-(valD D : Int)], by omega, by omega, by simp, by simp; omega, ?_, by rw [inI_app, List.length_append]; exact hown', hb3⟩
                  have h1 := HN1.out
                  obtain ⟨bl, hl1, hl2, _⟩ := HAt.out (D.length - 1) (by omega)
                  have hng : ng s (i + D.length) = false := by
                    have := ng_dig s (i + (D.length - 1)) bl hl1 hl2
                    rwa [show i + (D.length - 1) + 1 = i + D.length by omega] at this
                  have hd0 : isDig b0 = true := by
                    obtain ⟨b, hx1, hx2, _⟩ := HAt.out 0 (by omega)
                    rw [Nat.add_zero, Hb0.out] at hx1
                    injection hx1 with hx1; rw [hx1]; exact hx2
                  obtain ⟨m, hm⟩ : ∃ m, 4 - out.length = m + 1 := ⟨3 - out.length, by omega⟩
                  have := HR.out
                  rw [HP.out, hm, rn_num m _ b0 _ hd0, ← HP.out, ← HD.out, HNg.out, List.drop_drop] at this
                  rw [List.length_append, List.length_singleton, show 4 - (out.length + 1) = m by omega, hng, List.append_assoc]
                  simpa [sg] using this
              · have hi1 : ((0 : Int) < (i : Int)) := by omega
                have hii : IntKind.i64.wrap ((i : Int) - 1) = (i : Int) - 1 := wr64 (by omega) (by omega)
                obtain ⟨c, hc⟩ : ∃ c, s[i - 1]? = some c := ⟨s[i - 1]'(by omega), List.getElem?_eq_getElem (by omega)⟩
                have hix1 := idx_at s (i - 1) ((i : Int) - 1) c (by omega) hc
                have hc45 : c ≠ 45 := fun e => hm45 (by rw [hc, e])
                have hq45 : ((c.toNat : Int) == 45) = false := beq_eq_false_iff_ne.2 (fun e => hc45 (UInt8.toNat_inj.1 (by show c.toNat = 45; omega)))
                have HNg : Hid (ng s i = false) := decide_eq_false (fun h => hm45 h.2)
                clear hm45 hc hc45
                have hgt : ((i : Int) < (i : Int) + (D.length : Int)) := by omega
                have HN1 : Hid (1 ≤ D.length) := by show _ ≤ _; omega
                clear hD0
                go_wp2_with (first
                  | (go_at_call 52; refine (digit_any _ _).mono ?_; rintro e wd ⟨rfl, hwd⟩; rw [hwd]; clear hwd wd)
                  | (at_builtin; (refine wpList_append_own _ rfl _ _ 52 rfl w.heap.size 3 i0 (.int .i64 0) 1 8 Tryd.underlying52 hi0 hz0 hz1 hz2 rfl (by decide) _ _ _ rfl (hrow.alloc _) ⟨wo.heap.size, 0, none⟩ 1 1 [.int .i64 ((valD D : Int))] rfl rfl (cell_one_new _ _ (by first | rfl | simp) _ _) (by first | rfl | simp [Value.oneCell']) (by unfold maxLen; omega) (by omega) (by have := hb.size; first | omega | (simp; omega)) ?_; intro v' w3 hown' hgrow hnil')))
                go_roundg (s.length - (i + D.length))
                case measure => have := HN1.out; omega
                case rel =>
                  have hb3 : Below w.heap.size w w3 := (hb.alloc hb.size _).grown hgrow (by have := hb.size; simp; omega) (fun j e => (hrow.lt j e).1)
                  refine ⟨i + D.length, out ++ [(valD D : Int)], by omega, by omega, by simp, by simp; omega, ?_, by rw [inI_app, List.length_append]; exact hown', hb3⟩
                  have h1 := HN1.out
                  obtain ⟨bl, hl1, hl2, _⟩ := HAt.out (D.length - 1) (by omega)
                  have hng : ng s (i + D.length) = false := by
                    have := ng_dig s (i + (D.length - 1)) bl hl1 hl2
                    rwa [show i + (D.length - 1) + 1 = i + D.length by omega] at this
                  have hd0 : isDig b0 = true := by
                    obtain ⟨b, hx1, hx2, _⟩ := HAt.out 0 (by omega)
                    rw [Nat.add_zero, Hb0.out] at hx1
                    injection hx1 with hx1; rw [hx1]; exact hx2
                  obtain ⟨m, hm⟩ : ∃ m, 4 - out.length = m + 1 := ⟨3 - out.length, by omega⟩
                  have := HR.out
                  rw [HP.out, hm, rn_num m _ b0 _ hd0, ← HP.out, ← HD.out, HNg.out, List.drop_drop] at this
                  rw [List.length_append, List.length_singleton, show 4 - (out.length + 1) = m by omega, hng, List.append_assoc]
                  simpa [sg] using this
      · have h41 : ¬ ((out.length : Int) < 4) := by omega
        have e4 : out.length = 4 := by omega
        have HE : Hid (out = rn 4 false s) := by show _ = _; rw [← HR.out, e4, Nat.sub_self, rn_m0, List.append_nil]
        clear e4 h4
        go_wp2_with fail
        go_ret
        rw [← HE.out]
        exact ⟨_, rfl, hrow, hb⟩
    · have hil1 : ¬ ((i : Int) < (s.length : Int)) := by omega
      have HE : Hid (out = rn 4 false s) := by show _ = _; rw [← HR.out, List.drop_eq_nil_of_le (by omega), rn_nil, List.append_nil]
      go_wp2_with fail
      go_ret
      rw [← HE.out]
      exact ⟨_, rfl, hrow, hb⟩
end Go.Proofs.YtdjladaefoedfaaDoor
namespace Go.Proofs.YtdjladaefoedfaaDoor
open Go.RowKit Ip As Go.Lib

theorem own_slice {w : World} {B : Nat} {v : Value} {l : List Int} (h : w.ownsRow B 3 1 v l.length (inI l)) : ∃ p c, v = .slice p l.length c := by
  rcases h.2 with ⟨h1, h0⟩ | ⟨g, cap, cur, h1, _⟩
  · exact ⟨_, _, by rw [h1, h0]⟩
  · exact ⟨_, _, h1⟩
theorem own_ints {w : World} {B : Nat} {v : Value} {l : List Int} (h : w.ownsRow B 3 1 v l.length (inI l)) (hn : 0 < l.length) :
    ∃ g cap, v = .slice (some ⟨g, 0, none⟩) l.length cap ∧ g < w.heap.size ∧ ∀ j, j < l.length → w.cell? ⟨g, j, none⟩ = some (.int .i64 (l.getD j 0)) := by
  rcases h.2 with ⟨_, h0⟩ | ⟨g, cap, cur, h1, _, hg, hc1, _, hc2, hc3⟩
  · omega
  · refine ⟨g, cap, h1, (Array.getElem?_eq_some_iff.1 hg).1, fun j hj => ?_⟩
    have e1 : (inI l)[j]? = some (.int .i64 (l.getD j 0)) := by
      unfold inI; rw [List.getElem?_map, List.getD_eq_getElem?_getD, List.getElem?_eq_getElem hj]; rfl
    rw [← hc3, List.getElem?_take_of_lt (by omega)] at e1
    simp only [World.cell?]; rw [hg]; simpa using e1
theorem opM (op : Int) (h : isM op = true) : (op == 3) = true ∨ ((op == 3) = false ∧ 10 ≤ op ∧ op ≤ 14) := by
  have := of_decide_eq_true h
  by_cases h3 : op = 3
  · exact .inl (beq_iff_eq.2 h3)
  · exact .inr ⟨beq_eq_false_iff_ne.2 h3, by omega, by omega⟩
theorem opN (op : Int) (h : isM op = false) : (op == 3) = false ∧ (¬ 10 ≤ op ∨ (10 ≤ op ∧ ¬ op ≤ 14)) := by
  have := of_decide_eq_false h
  exact ⟨beq_eq_false_iff_ne.2 (fun e => this (.inl e)), by omega⟩
theorem opA (op : Int) : (op == 3) = true ∨ ((op == 3) = false ∧ 10 ≤ op ∧ op ≤ 14) ∨ ((op == 3) = false ∧ ¬ 10 ≤ op) ∨ ((op == 3) = false ∧ 10 ≤ op ∧ ¬ op ≤ 14) := by
  cases h : isM op
  · obtain ⟨h3, h | h⟩ := opN op h
    · exact .inr (.inr (.inl ⟨h3, h⟩))
    · exact .inr (.inr (.inr ⟨h3, h⟩))
  · rcases opM op h with h | h
    · exact .inl h
    · exact .inr (.inl h)
theorem five_set {W : World} {g : Nat} {t : TypeId} (h : W.heap[g]? = some (.cells Z5 t (0, 0))) (a b c d e : Value) :
    (((((W.setCell ⟨g, 0, none⟩ a).setCell ⟨g, 1, none⟩ b).setCell ⟨g, 2, none⟩ c).setCell ⟨g, 3, none⟩ d).setCell ⟨g, 4, none⟩ e).drew.heap[g]? = some (.cells #[a, b, c, d, e] t (0, 0)) := by
  have h0 := heap_setCell_same W g 0 _ _ a h
  have h1 := heap_setCell_same _ g 1 _ _ b h0
  have h2 := heap_setCell_same _ g 2 _ _ c h1
  have h3 := heap_setCell_same _ g 3 _ _ d h2
  have h4 := heap_setCell_same _ g 4 _ _ e h3
  rw [heap_drew]; simpa using h4
theorem five_below {w W : World} (h : Below w.heap.size w W) (a b c d e : Value) :
    Below w.heap.size w (((((W.setCell ⟨w.heap.size, 0, none⟩ a).setCell ⟨w.heap.size, 1, none⟩ b).setCell ⟨w.heap.size, 2, none⟩ c).setCell ⟨w.heap.size, 3, none⟩ d).setCell ⟨w.heap.size, 4, none⟩ e).drew :=
  (((((h.setCell (Nat.le_refl _) a).setCell (Nat.le_refl _) b).setCell (Nat.le_refl _) c).setCell (Nat.le_refl _) d).setCell (Nat.le_refl _) e).drew

set_option maxHeartbeats 4000000 in
set_option maxRecDepth 100000 in
theorem rfill_e (op : Int) (hf : 69 = frm op) (v : Value) (w : World) :
    Calls Tryd.prog 31 #[.int .i64 op, v] w fun e w' => e = .returned (.agg #[.int .i64 op, .int .i64 0, .int .i64 0, .int .i64 0, .int .i64 0]) ∧ Below w.heap.size w w' := by
  have hz := zeroX
  have HF : Hid (69 = frm op) := hf
  clear hf
  rcases opA op with h3 | ⟨h3, h10, h14⟩ | ⟨h3, h10⟩ | ⟨h3, h10, h14⟩
  all_goals
    go_enter Tryd.func31, Tryd.ntmps31
    go_wp2_with fail
    refine (rform_to op 69 HF.out _).mono ?_
    rintro e w5 ⟨rfl, hw⟩
    have HB5 : Below w.heap.size w w5 := by rw [hw]; exact (Below.refl _ _).alloc (Nat.le_refl _) _
    have hr5 : w5.heap[w.heap.size]? = some (.cells Z5 23 (0, 0)) := by rw [hw]; exact heap_alloc_new _ _
    clear hw
    go_wp2_with (first
      | (refine wpList_store_row rfl 23 _ _ rfl w.heap.size #[.int .i64 op, .int .i64 0, .int .i64 0, .int .i64 0, .int .i64 0] rfl rfl _ Z5 hr5 (by kernel_rfl) rfl (by kernel_rfl) ?_))
    refine bodyPost_ret (v := .agg #[.int .i64 op, .int .i64 0, .int .i64 0, .int .i64 0, .int .i64 0]) (results_cell_row (p := 4) (by kernel_rfl) _ _ w.heap.size _ _ _ _ (by kernel_rfl) (setRow_heap _ _ _ _ _ _ hr5) Tryd.underlying23 rfl (by kernel_rfl)) rfl ⟨rfl, below_setRow HB5 (Nat.le_refl _) _⟩

set_option maxHeartbeats 4000000 in
set_option maxRecDepth 100000 in
theorem rfill_85 (op : Int) (hf : 85 = frm op) (g cap : Nat) (a b : Int) (w : World) (hg : g < w.heap.size) (x0 : w.cell? ⟨g, 0, none⟩ = some (.int .i64 a)) (x1 : w.cell? ⟨g, 1, none⟩ = some (.int .i64 b)) :
    Calls Tryd.prog 31 #[.int .i64 op, .slice (some ⟨g, 0, none⟩) 2 cap] w fun e w' => e = .returned (.agg #[.int .i64 op, .int .i64 a, .int .i64 0, .int .i64 0, .int .i64 b]) ∧ Below w.heap.size w w' := by
  have hz := zeroX
  have HX0 : Hid (w.cell? ⟨g, 0, none⟩ = some (.int .i64 a)) := x0
  have HX1 : Hid (w.cell? ⟨g, 1, none⟩ = some (.int .i64 b)) := x1
  clear x0 x1
  have HF : Hid (85 = frm op) := hf
  clear hf
  rcases opA op with h3 | ⟨h3, h10, h14⟩ | ⟨h3, h10⟩ | ⟨h3, h10, h14⟩
  all_goals
    go_enter Tryd.func31, Tryd.ntmps31
    go_wp2_with fail
    refine (rform_to op 85 HF.out _).mono ?_
    rintro e w5 ⟨rfl, hw⟩
    have HB5 : Below w.heap.size w w5 := by rw [hw]; exact (Below.refl _ _).alloc (Nat.le_refl _) _
    have hr5 : w5.heap[w.heap.size]? = some (.cells Z5 23 (0, 0)) := by rw [hw]; exact heap_alloc_new _ _
    clear hw
    have x0 := ((bcell HB5).1 g 0 hg).trans HX0.out
    have x1 := ((bcell HB5).1 g 1 hg).trans HX1.out
    have y0 : w5.cell? ⟨w.heap.size, 0, none⟩ = some (.int .i64 0) := by simp only [World.cell?]; rw [hr5]; rfl
    have f0 : w5.frozen? ⟨w.heap.size, 0, none⟩ = false := by simp only [World.frozen?]; rw [hr5]; rfl
    have y1 : w5.cell? ⟨w.heap.size, 1, none⟩ = some (.int .i64 0) := by simp only [World.cell?]; rw [hr5]; rfl
    have f1 : w5.frozen? ⟨w.heap.size, 1, none⟩ = false := by simp only [World.frozen?]; rw [hr5]; rfl
    have y2 : w5.cell? ⟨w.heap.size, 2, none⟩ = some (.int .i64 0) := by simp only [World.cell?]; rw [hr5]; rfl
    have f2 : w5.frozen? ⟨w.heap.size, 2, none⟩ = false := by simp only [World.frozen?]; rw [hr5]; rfl
    have y3 : w5.cell? ⟨w.heap.size, 3, none⟩ = some (.int .i64 0) := by simp only [World.cell?]; rw [hr5]; rfl
    have f3 : w5.frozen? ⟨w.heap.size, 3, none⟩ = false := by simp only [World.frozen?]; rw [hr5]; rfl
    have y4 : w5.cell? ⟨w.heap.size, 4, none⟩ = some (.int .i64 0) := by simp only [World.cell?]; rw [hr5]; rfl
    have f4 : w5.frozen? ⟨w.heap.size, 4, none⟩ = false := by simp only [World.frozen?]; rw [hr5]; rfl
    go_wp2_with fail
    go_region
    go_wp2_with fail
    exact bodyPost_ret (v := .agg #[.int .i64 op, .int .i64 a, .int .i64 0, .int .i64 0, .int .i64 b]) (results_cell_row (p := 4) (by kernel_rfl) _ _ w.heap.size _ _ _ _ (by kernel_rfl) (five_set hr5 _ _ _ _ _) Tryd.underlying23 rfl (by kernel_rfl)) rfl ⟨rfl, five_below HB5 _ _ _ _ _⟩

set_option maxHeartbeats 4000000 in
set_option maxRecDepth 100000 in
theorem rfill_74 (op : Int) (hf : 74 = frm op) (g cap : Nat) (a b : Int) (w : World) (hg : g < w.heap.size) (x0 : w.cell? ⟨g, 0, none⟩ = some (.int .i64 a)) (x1 : w.cell? ⟨g, 1, none⟩ = some (.int .i64 b)) :
    Calls Tryd.prog 31 #[.int .i64 op, .slice (some ⟨g, 0, none⟩) 2 cap] w fun e w' => e = .returned (.agg #[.int .i64 op, .int .i64 a, .int .i64 0, .int .i64 0, .int .i64 b]) ∧ Below w.heap.size w w' := by
  have hz := zeroX
  have HX0 : Hid (w.cell? ⟨g, 0, none⟩ = some (.int .i64 a)) := x0
  have HX1 : Hid (w.cell? ⟨g, 1, none⟩ = some (.int .i64 b)) := x1
  clear x0 x1
  have HF : Hid (74 = frm op) := hf
  clear hf
  rcases opA op with h3 | ⟨h3, h10, h14⟩ | ⟨h3, h10⟩ | ⟨h3, h10, h14⟩
  all_goals
    go_enter Tryd.func31, Tryd.ntmps31
    go_wp2_with fail
    refine (rform_to op 74 HF.out _).mono ?_
    rintro e w5 ⟨rfl, hw⟩
    have HB5 : Below w.heap.size w w5 := by rw [hw]; exact (Below.refl _ _).alloc (Nat.le_refl _) _
    have hr5 : w5.heap[w.heap.size]? = some (.cells Z5 23 (0, 0)) := by rw [hw]; exact heap_alloc_new _ _
    clear hw
    have x0 := ((bcell HB5).1 g 0 hg).trans HX0.out
    have x1 := ((bcell HB5).1 g 1 hg).trans HX1.out
    have y0 : w5.cell? ⟨w.heap.size, 0, none⟩ = some (.int .i64 0) := by simp only [World.cell?]; rw [hr5]; rfl
    have f0 : w5.frozen? ⟨w.heap.size, 0, none⟩ = false := by simp only [World.frozen?]; rw [hr5]; rfl
    have y1 : w5.cell? ⟨w.heap.size, 1, none⟩ = some (.int .i64 0) := by simp only [World.cell?]; rw [hr5]; rfl
    have f1 : w5.frozen? ⟨w.heap.size, 1, none⟩ = false := by simp only [World.frozen?]; rw [hr5]; rfl
    have y2 : w5.cell? ⟨w.heap.size, 2, none⟩ = some (.int .i64 0) := by simp only [World.cell?]; rw [hr5]; rfl
    have f2 : w5.frozen? ⟨w.heap.size, 2, none⟩ = false := by simp only [World.frozen?]; rw [hr5]; rfl
    have y3 : w5.cell? ⟨w.heap.size, 3, none⟩ = some (.int .i64 0) := by simp only [World.cell?]; rw [hr5]; rfl
    have f3 : w5.frozen? ⟨w.heap.size, 3, none⟩ = false := by simp only [World.frozen?]; rw [hr5]; rfl
    have y4 : w5.cell? ⟨w.heap.size, 4, none⟩ = some (.int .i64 0) := by simp only [World.cell?]; rw [hr5]; rfl
    have f4 : w5.frozen? ⟨w.heap.size, 4, none⟩ = false := by simp only [World.frozen?]; rw [hr5]; rfl
    go_wp2_with fail
    go_region
    go_wp2_with fail
    exact bodyPost_ret (v := .agg #[.int .i64 op, .int .i64 a, .int .i64 0, .int .i64 0, .int .i64 b]) (results_cell_row (p := 4) (by kernel_rfl) _ _ w.heap.size _ _ _ _ (by kernel_rfl) (five_set hr5 _ _ _ _ _) Tryd.underlying23 rfl (by kernel_rfl)) rfl ⟨rfl, five_below HB5 _ _ _ _ _⟩

set_option maxHeartbeats 4000000 in
set_option maxRecDepth 100000 in
theorem rfill_82 (op : Int) (hf : 82 = frm op) (g cap : Nat) (a b c : Int) (w : World) (hg : g < w.heap.size) (x0 : w.cell? ⟨g, 0, none⟩ = some (.int .i64 a)) (x1 : w.cell? ⟨g, 1, none⟩ = some (.int .i64 b)) (x2 : w.cell? ⟨g, 2, none⟩ = some (.int .i64 c)) :
    Calls Tryd.prog 31 #[.int .i64 op, .slice (some ⟨g, 0, none⟩) 3 cap] w fun e w' => e = .returned (.agg #[.int .i64 op, .int .i64 a, .int .i64 b, .int .i64 c, .int .i64 0]) ∧ Below w.heap.size w w' := by
  have hz := zeroX
  have HX0 : Hid (w.cell? ⟨g, 0, none⟩ = some (.int .i64 a)) := x0
  have HX1 : Hid (w.cell? ⟨g, 1, none⟩ = some (.int .i64 b)) := x1
  have HX2 : Hid (w.cell? ⟨g, 2, none⟩ = some (.int .i64 c)) := x2
  clear x0 x1 x2
  have HF : Hid (82 = frm op) := hf
  clear hf
  rcases opA op with h3 | ⟨h3, h10, h14⟩ | ⟨h3, h10⟩ | ⟨h3, h10, h14⟩
  all_goals
    go_enter Tryd.func31, Tryd.ntmps31
    go_wp2_with fail
    refine (rform_to op 82 HF.out _).mono ?_
    rintro e w5 ⟨rfl, hw⟩
    have HB5 : Below w.heap.size w w5 := by rw [hw]; exact (Below.refl _ _).alloc (Nat.le_refl _) _
    have hr5 : w5.heap[w.heap.size]? = some (.cells Z5 23 (0, 0)) := by rw [hw]; exact heap_alloc_new _ _
    clear hw
    have x0 := ((bcell HB5).1 g 0 hg).trans HX0.out
    have x1 := ((bcell HB5).1 g 1 hg).trans HX1.out
    have x2 := ((bcell HB5).1 g 2 hg).trans HX2.out
    have y0 : w5.cell? ⟨w.heap.size, 0, none⟩ = some (.int .i64 0) := by simp only [World.cell?]; rw [hr5]; rfl
    have f0 : w5.frozen? ⟨w.heap.size, 0, none⟩ = false := by simp only [World.frozen?]; rw [hr5]; rfl
    have y1 : w5.cell? ⟨w.heap.size, 1, none⟩ = some (.int .i64 0) := by simp only [World.cell?]; rw [hr5]; rfl
    have f1 : w5.frozen? ⟨w.heap.size, 1, none⟩ = false := by simp only [World.frozen?]; rw [hr5]; rfl
    have y2 : w5.cell? ⟨w.heap.size, 2, none⟩ = some (.int .i64 0) := by simp only [World.cell?]; rw [hr5]; rfl
    have f2 : w5.frozen? ⟨w.heap.size, 2, none⟩ = false := by simp only [World.frozen?]; rw [hr5]; rfl
    have y3 : w5.cell? ⟨w.heap.size, 3, none⟩ = some (.int .i64 0) := by simp only [World.cell?]; rw [hr5]; rfl
    have f3 : w5.frozen? ⟨w.heap.size, 3, none⟩ = false := by simp only [World.frozen?]; rw [hr5]; rfl
    have y4 : w5.cell? ⟨w.heap.size, 4, none⟩ = some (.int .i64 0) := by simp only [World.cell?]; rw [hr5]; rfl
    have f4 : w5.frozen? ⟨w.heap.size, 4, none⟩ = false := by simp only [World.frozen?]; rw [hr5]; rfl
    go_wp2_with fail
    go_region
    go_wp2_with fail
    exact bodyPost_ret (v := .agg #[.int .i64 op, .int .i64 a, .int .i64 b, .int .i64 c, .int .i64 0]) (results_cell_row (p := 4) (by kernel_rfl) _ _ w.heap.size _ _ _ _ (by kernel_rfl) (five_set hr5 _ _ _ _ _) Tryd.underlying23 rfl (by kernel_rfl)) rfl ⟨rfl, five_below HB5 _ _ _ _ _⟩

set_option maxHeartbeats 4000000 in
set_option maxRecDepth 100000 in
theorem rfill_66 (op : Int) (hf : 66 = frm op) (g cap : Nat) (a b c : Int) (w : World) (hg : g < w.heap.size) (x0 : w.cell? ⟨g, 0, none⟩ = some (.int .i64 a)) (x1 : w.cell? ⟨g, 1, none⟩ = some (.int .i64 b)) (x2 : w.cell? ⟨g, 2, none⟩ = some (.int .i64 c)) :
    Calls Tryd.prog 31 #[.int .i64 op, .slice (some ⟨g, 0, none⟩) 3 cap] w fun e w' => e = .returned (.agg #[.int .i64 op, .int .i64 0, .int .i64 a, .int .i64 b, .int .i64 c]) ∧ Below w.heap.size w w' := by
  have hz := zeroX
  have HX0 : Hid (w.cell? ⟨g, 0, none⟩ = some (.int .i64 a)) := x0
  have HX1 : Hid (w.cell? ⟨g, 1, none⟩ = some (.int .i64 b)) := x1
  have HX2 : Hid (w.cell? ⟨g, 2, none⟩ = some (.int .i64 c)) := x2
  clear x0 x1 x2
  have HF : Hid (66 = frm op) := hf
  clear hf
  rcases opA op with h3 | ⟨h3, h10, h14⟩ | ⟨h3, h10⟩ | ⟨h3, h10, h14⟩
  all_goals
    go_enter Tryd.func31, Tryd.ntmps31
    go_wp2_with fail
    refine (rform_to op 66 HF.out _).mono ?_
    rintro e w5 ⟨rfl, hw⟩
    have HB5 : Below w.heap.size w w5 := by rw [hw]; exact (Below.refl _ _).alloc (Nat.le_refl _) _
    have hr5 : w5.heap[w.heap.size]? = some (.cells Z5 23 (0, 0)) := by rw [hw]; exact heap_alloc_new _ _
    clear hw
    have x0 := ((bcell HB5).1 g 0 hg).trans HX0.out
    have x1 := ((bcell HB5).1 g 1 hg).trans HX1.out
    have x2 := ((bcell HB5).1 g 2 hg).trans HX2.out
    have y0 : w5.cell? ⟨w.heap.size, 0, none⟩ = some (.int .i64 0) := by simp only [World.cell?]; rw [hr5]; rfl
    have f0 : w5.frozen? ⟨w.heap.size, 0, none⟩ = false := by simp only [World.frozen?]; rw [hr5]; rfl
    have y1 : w5.cell? ⟨w.heap.size, 1, none⟩ = some (.int .i64 0) := by simp only [World.cell?]; rw [hr5]; rfl
    have f1 : w5.frozen? ⟨w.heap.size, 1, none⟩ = false := by simp only [World.frozen?]; rw [hr5]; rfl
    have y2 : w5.cell? ⟨w.heap.size, 2, none⟩ = some (.int .i64 0) := by simp only [World.cell?]; rw [hr5]; rfl
    have f2 : w5.frozen? ⟨w.heap.size, 2, none⟩ = false := by simp only [World.frozen?]; rw [hr5]; rfl
    have y3 : w5.cell? ⟨w.heap.size, 3, none⟩ = some (.int .i64 0) := by simp only [World.cell?]; rw [hr5]; rfl
    have f3 : w5.frozen? ⟨w.heap.size, 3, none⟩ = false := by simp only [World.frozen?]; rw [hr5]; rfl
    have y4 : w5.cell? ⟨w.heap.size, 4, none⟩ = some (.int .i64 0) := by simp only [World.cell?]; rw [hr5]; rfl
    have f4 : w5.frozen? ⟨w.heap.size, 4, none⟩ = false := by simp only [World.frozen?]; rw [hr5]; rfl
    go_wp2_with fail
    go_region
    go_wp2_with fail
    exact bodyPost_ret (v := .agg #[.int .i64 op, .int .i64 0, .int .i64 a, .int .i64 b, .int .i64 c]) (results_cell_row (p := 4) (by kernel_rfl) _ _ w.heap.size _ _ _ _ (by kernel_rfl) (five_set hr5 _ _ _ _ _) Tryd.underlying23 rfl (by kernel_rfl)) rfl ⟨rfl, five_below HB5 _ _ _ _ _⟩

set_option maxHeartbeats 4000000 in
set_option maxRecDepth 100000 in
theorem rfill_83 (op : Int) (hf : 83 = frm op) (g cap : Nat) (a b c : Int) (w : World) (hg : g < w.heap.size) (x0 : w.cell? ⟨g, 0, none⟩ = some (.int .i64 a)) (x1 : w.cell? ⟨g, 1, none⟩ = some (.int .i64 b)) (x2 : w.cell? ⟨g, 2, none⟩ = some (.int .i64 c)) :
    Calls Tryd.prog 31 #[.int .i64 op, .slice (some ⟨g, 0, none⟩) 3 cap] w fun e w' => e = .returned (.agg #[.int .i64 op, .int .i64 0, .int .i64 c, .int .i64 a, .int .i64 b]) ∧ Below w.heap.size w w' := by
  have hz := zeroX
  have HX0 : Hid (w.cell? ⟨g, 0, none⟩ = some (.int .i64 a)) := x0
  have HX1 : Hid (w.cell? ⟨g, 1, none⟩ = some (.int .i64 b)) := x1
  have HX2 : Hid (w.cell? ⟨g, 2, none⟩ = some (.int .i64 c)) := x2
  clear x0 x1 x2
  have HF : Hid (83 = frm op) := hf
  clear hf
  rcases opA op with h3 | ⟨h3, h10, h14⟩ | ⟨h3, h10⟩ | ⟨h3, h10, h14⟩
  all_goals
    go_enter Tryd.func31, Tryd.ntmps31
    go_wp2_with fail
    refine (rform_to op 83 HF.out _).mono ?_
    rintro e w5 ⟨rfl, hw⟩
    have HB5 : Below w.heap.size w w5 := by rw [hw]; exact (Below.refl _ _).alloc (Nat.le_refl _) _
    have hr5 : w5.heap[w.heap.size]? = some (.cells Z5 23 (0, 0)) := by rw [hw]; exact heap_alloc_new _ _
    clear hw
    have x0 := ((bcell HB5).1 g 0 hg).trans HX0.out
    have x1 := ((bcell HB5).1 g 1 hg).trans HX1.out
    have x2 := ((bcell HB5).1 g 2 hg).trans HX2.out
    have y0 : w5.cell? ⟨w.heap.size, 0, none⟩ = some (.int .i64 0) := by simp only [World.cell?]; rw [hr5]; rfl
    have f0 : w5.frozen? ⟨w.heap.size, 0, none⟩ = false := by simp only [World.frozen?]; rw [hr5]; rfl
    have y1 : w5.cell? ⟨w.heap.size, 1, none⟩ = some (.int .i64 0) := by simp only [World.cell?]; rw [hr5]; rfl
    have f1 : w5.frozen? ⟨w.heap.size, 1, none⟩ = false := by simp only [World.frozen?]; rw [hr5]; rfl
    have y2 : w5.cell? ⟨w.heap.size, 2, none⟩ = some (.int .i64 0) := by simp only [World.cell?]; rw [hr5]; rfl
    have f2 : w5.frozen? ⟨w.heap.size, 2, none⟩ = false := by simp only [World.frozen?]; rw [hr5]; rfl
    have y3 : w5.cell? ⟨w.heap.size, 3, none⟩ = some (.int .i64 0) := by simp only [World.cell?]; rw [hr5]; rfl
    have f3 : w5.frozen? ⟨w.heap.size, 3, none⟩ = false := by simp only [World.frozen?]; rw [hr5]; rfl
    have y4 : w5.cell? ⟨w.heap.size, 4, none⟩ = some (.int .i64 0) := by simp only [World.cell?]; rw [hr5]; rfl
    have f4 : w5.frozen? ⟨w.heap.size, 4, none⟩ = false := by simp only [World.frozen?]; rw [hr5]; rfl
    go_wp2_with fail
    go_region
    go_wp2_with fail
    exact bodyPost_ret (v := .agg #[.int .i64 op, .int .i64 0, .int .i64 c, .int .i64 a, .int .i64 b]) (results_cell_row (p := 4) (by kernel_rfl) _ _ w.heap.size _ _ _ _ (by kernel_rfl) (five_set hr5 _ _ _ _ _) Tryd.underlying23 rfl (by kernel_rfl)) rfl ⟨rfl, five_below HB5 _ _ _ _ _⟩

set_option maxHeartbeats 4000000 in
set_option maxRecDepth 100000 in
theorem rfill_in (op : Int) (F : Nat) (hf : F = frm op) (q1 : ((F : Int) == 69) = false) (q2 : ((F : Int) == 82) = false) (q3 : ((F : Int) == 66) = false) (q4 : ((F : Int) == 83) = false) (hm : isM op = true) (g cap : Nat) (a b c : Int) (w : World) (hg : g < w.heap.size) (x0 : w.cell? ⟨g, 0, none⟩ = some (.int .i64 a)) (x1 : w.cell? ⟨g, 1, none⟩ = some (.int .i64 b)) (x2 : w.cell? ⟨g, 2, none⟩ = some (.int .i64 c)) :
    Calls Tryd.prog 31 #[.int .i64 op, .slice (some ⟨g, 0, none⟩) 3 cap] w fun e w' => e = .returned (.agg #[.int .i64 op, .int .i64 a, .int .i64 c, .int .i64 0, .int .i64 b]) ∧ Below w.heap.size w w' := by
  have hz := zeroX
  have HX0 : Hid (w.cell? ⟨g, 0, none⟩ = some (.int .i64 a)) := x0
  have HX1 : Hid (w.cell? ⟨g, 1, none⟩ = some (.int .i64 b)) := x1
  have HX2 : Hid (w.cell? ⟨g, 2, none⟩ = some (.int .i64 c)) := x2
  clear x0 x1 x2
  have HF : Hid (F = frm op) := hf
  clear hf
  rcases opM op hm with h3 | ⟨h3, h10, h14⟩
  all_goals
    go_enter Tryd.func31, Tryd.ntmps31
    go_wp2_with fail
    refine (rform_to op F HF.out _).mono ?_
    rintro e w5 ⟨rfl, hw⟩
    have HB5 : Below w.heap.size w w5 := by rw [hw]; exact (Below.refl _ _).alloc (Nat.le_refl _) _
    have hr5 : w5.heap[w.heap.size]? = some (.cells Z5 23 (0, 0)) := by rw [hw]; exact heap_alloc_new _ _
    clear hw
    have x0 := ((bcell HB5).1 g 0 hg).trans HX0.out
    have x1 := ((bcell HB5).1 g 1 hg).trans HX1.out
    have x2 := ((bcell HB5).1 g 2 hg).trans HX2.out
    have y0 : w5.cell? ⟨w.heap.size, 0, none⟩ = some (.int .i64 0) := by simp only [World.cell?]; rw [hr5]; rfl
    have f0 : w5.frozen? ⟨w.heap.size, 0, none⟩ = false := by simp only [World.frozen?]; rw [hr5]; rfl
    have y1 : w5.cell? ⟨w.heap.size, 1, none⟩ = some (.int .i64 0) := by simp only [World.cell?]; rw [hr5]; rfl
    have f1 : w5.frozen? ⟨w.heap.size, 1, none⟩ = false := by simp only [World.frozen?]; rw [hr5]; rfl
    have y2 : w5.cell? ⟨w.heap.size, 2, none⟩ = some (.int .i64 0) := by simp only [World.cell?]; rw [hr5]; rfl
    have f2 : w5.frozen? ⟨w.heap.size, 2, none⟩ = false := by simp only [World.frozen?]; rw [hr5]; rfl
    have y3 : w5.cell? ⟨w.heap.size, 3, none⟩ = some (.int .i64 0) := by simp only [World.cell?]; rw [hr5]; rfl
    have f3 : w5.frozen? ⟨w.heap.size, 3, none⟩ = false := by simp only [World.frozen?]; rw [hr5]; rfl
    have y4 : w5.cell? ⟨w.heap.size, 4, none⟩ = some (.int .i64 0) := by simp only [World.cell?]; rw [hr5]; rfl
    have f4 : w5.frozen? ⟨w.heap.size, 4, none⟩ = false := by simp only [World.frozen?]; rw [hr5]; rfl
    go_wp2_with fail
    go_region
    go_wp2_with fail
    exact bodyPost_ret (v := .agg #[.int .i64 op, .int .i64 a, .int .i64 c, .int .i64 0, .int .i64 b]) (results_cell_row (p := 4) (by kernel_rfl) _ _ w.heap.size _ _ _ _ (by kernel_rfl) (five_set hr5 _ _ _ _ _) Tryd.underlying23 rfl (by kernel_rfl)) rfl ⟨rfl, five_below HB5 _ _ _ _ _⟩

set_option maxHeartbeats 4000000 in
set_option maxRecDepth 100000 in
theorem rfill_i (op : Int) (F : Nat) (hf : F = frm op) (q1 : ((F : Int) == 69) = false) (q2 : ((F : Int) == 82) = false) (q3 : ((F : Int) == 66) = false) (q4 : ((F : Int) == 83) = false) (hm : isM op = false) (g cap : Nat) (a b c : Int) (w : World) (hg : g < w.heap.size) (x0 : w.cell? ⟨g, 0, none⟩ = some (.int .i64 a)) (x1 : w.cell? ⟨g, 1, none⟩ = some (.int .i64 b)) (x2 : w.cell? ⟨g, 2, none⟩ = some (.int .i64 c)) :
    Calls Tryd.prog 31 #[.int .i64 op, .slice (some ⟨g, 0, none⟩) 3 cap] w fun e w' => e = .returned (.agg #[.int .i64 op, .int .i64 a, .int .i64 b, .int .i64 0, .int .i64 c]) ∧ Below w.heap.size w w' := by
  have hz := zeroX
  have HX0 : Hid (w.cell? ⟨g, 0, none⟩ = some (.int .i64 a)) := x0
  have HX1 : Hid (w.cell? ⟨g, 1, none⟩ = some (.int .i64 b)) := x1
  have HX2 : Hid (w.cell? ⟨g, 2, none⟩ = some (.int .i64 c)) := x2
  clear x0 x1 x2
  have HF : Hid (F = frm op) := hf
  clear hf
  obtain ⟨h3, h10 | ⟨h10, h14⟩⟩ := opN op hm
  all_goals
    go_enter Tryd.func31, Tryd.ntmps31
    go_wp2_with fail
    refine (rform_to op F HF.out _).mono ?_
    rintro e w5 ⟨rfl, hw⟩
    have HB5 : Below w.heap.size w w5 := by rw [hw]; exact (Below.refl _ _).alloc (Nat.le_refl _) _
    have hr5 : w5.heap[w.heap.size]? = some (.cells Z5 23 (0, 0)) := by rw [hw]; exact heap_alloc_new _ _
    clear hw
    have x0 := ((bcell HB5).1 g 0 hg).trans HX0.out
    have x1 := ((bcell HB5).1 g 1 hg).trans HX1.out
    have x2 := ((bcell HB5).1 g 2 hg).trans HX2.out
    have y0 : w5.cell? ⟨w.heap.size, 0, none⟩ = some (.int .i64 0) := by simp only [World.cell?]; rw [hr5]; rfl
    have f0 : w5.frozen? ⟨w.heap.size, 0, none⟩ = false := by simp only [World.frozen?]; rw [hr5]; rfl
    have y1 : w5.cell? ⟨w.heap.size, 1, none⟩ = some (.int .i64 0) := by simp only [World.cell?]; rw [hr5]; rfl
    have f1 : w5.frozen? ⟨w.heap.size, 1, none⟩ = false := by simp only [World.frozen?]; rw [hr5]; rfl
    have y2 : w5.cell? ⟨w.heap.size, 2, none⟩ = some (.int .i64 0) := by simp only [World.cell?]; rw [hr5]; rfl
    have f2 : w5.frozen? ⟨w.heap.size, 2, none⟩ = false := by simp only [World.frozen?]; rw [hr5]; rfl
    have y3 : w5.cell? ⟨w.heap.size, 3, none⟩ = some (.int .i64 0) := by simp only [World.cell?]; rw [hr5]; rfl
    have f3 : w5.frozen? ⟨w.heap.size, 3, none⟩ = false := by simp only [World.frozen?]; rw [hr5]; rfl
    have y4 : w5.cell? ⟨w.heap.size, 4, none⟩ = some (.int .i64 0) := by simp only [World.cell?]; rw [hr5]; rfl
    have f4 : w5.frozen? ⟨w.heap.size, 4, none⟩ = false := by simp only [World.frozen?]; rw [hr5]; rfl
    go_wp2_with fail
    go_region
    go_wp2_with fail
    exact bodyPost_ret (v := .agg #[.int .i64 op, .int .i64 a, .int .i64 b, .int .i64 0, .int .i64 c]) (results_cell_row (p := 4) (by kernel_rfl) _ _ w.heap.size _ _ _ _ (by kernel_rfl) (five_set hr5 _ _ _ _ _) Tryd.underlying23 rfl (by kernel_rfl)) rfl ⟨rfl, five_below HB5 _ _ _ _ _⟩

set_option maxHeartbeats 4000000 in
set_option maxRecDepth 100000 in
theorem rfill_n (op : Int) (F : Nat) (hf : F = frm op) (q1 : ((F : Int) == 69) = false) (n : Nat) (hn3 : ((n : Int) == 3) = false) (hn2 : ((n : Int) == 2) = false) (p : Option Addr) (cap : Nat) (w : World) :
    Calls Tryd.prog 31 #[.int .i64 op, .slice p n cap] w fun e w' => e = .returned (.agg #[.int .i64 (-1), .int .i64 0, .int .i64 0, .int .i64 0, .int .i64 0]) ∧ Below w.heap.size w w' := by
  have hz := zeroX
  have HF : Hid (F = frm op) := hf
  clear hf
  rcases opA op with h3 | ⟨h3, h10, h14⟩ | ⟨h3, h10⟩ | ⟨h3, h10, h14⟩
  all_goals
    go_enter Tryd.func31, Tryd.ntmps31
    go_wp2_with fail
    refine (rform_to op F HF.out _).mono ?_
    rintro e w5 ⟨rfl, hw⟩
    have HB5 : Below w.heap.size w w5 := by rw [hw]; exact (Below.refl _ _).alloc (Nat.le_refl _) _
    have hr5 : w5.heap[w.heap.size]? = some (.cells Z5 23 (0, 0)) := by rw [hw]; exact heap_alloc_new _ _
    clear hw
    go_wp2_with (first
      | (refine wpList_store_row rfl 23 _ _ rfl w.heap.size #[.int .i64 (-1), .int .i64 0, .int .i64 0, .int .i64 0, .int .i64 0] rfl rfl _ Z5 hr5 (by kernel_rfl) rfl (by kernel_rfl) ?_))
    refine bodyPost_ret (v := .agg #[.int .i64 (-1), .int .i64 0, .int .i64 0, .int .i64 0, .int .i64 0]) (results_cell_row (p := 4) (by kernel_rfl) _ _ w.heap.size _ _ _ _ (by kernel_rfl) (setRow_heap _ _ _ _ _ _ hr5) Tryd.underlying23 rfl (by kernel_rfl)) rfl ⟨rfl, below_setRow HB5 (Nat.le_refl _) _⟩

set_option maxHeartbeats 4000000 in
set_option maxRecDepth 100000 in
theorem rfill_2 (op : Int) (F : Nat) (hf : F = frm op) (q1 : ((F : Int) == 69) = false) (n : Nat) (hn2 : ((n : Int) == 2) = true) (q5 : ((F : Int) == 85) = false) (q6 : ((F : Int) == 74) = false) (p : Option Addr) (cap : Nat) (w : World) :
    Calls Tryd.prog 31 #[.int .i64 op, .slice p n cap] w fun e w' => e = .returned (.agg #[.int .i64 (-1), .int .i64 0, .int .i64 0, .int .i64 0, .int .i64 0]) ∧ Below w.heap.size w w' := by
  have hz := zeroX
  have HF : Hid (F = frm op) := hf
  clear hf
  rcases opA op with h3 | ⟨h3, h10, h14⟩ | ⟨h3, h10⟩ | ⟨h3, h10, h14⟩
  all_goals
    go_enter Tryd.func31, Tryd.ntmps31
    go_wp2_with fail
    refine (rform_to op F HF.out _).mono ?_
    rintro e w5 ⟨rfl, hw⟩
    have HB5 : Below w.heap.size w w5 := by rw [hw]; exact (Below.refl _ _).alloc (Nat.le_refl _) _
    have hr5 : w5.heap[w.heap.size]? = some (.cells Z5 23 (0, 0)) := by rw [hw]; exact heap_alloc_new _ _
    clear hw
    go_wp2_with (first
      | (refine wpList_store_row rfl 23 _ _ rfl w.heap.size #[.int .i64 (-1), .int .i64 0, .int .i64 0, .int .i64 0, .int .i64 0] rfl rfl _ Z5 hr5 (by kernel_rfl) rfl (by kernel_rfl) ?_))
    refine bodyPost_ret (v := .agg #[.int .i64 (-1), .int .i64 0, .int .i64 0, .int .i64 0, .int .i64 0]) (results_cell_row (p := 4) (by kernel_rfl) _ _ w.heap.size _ _ _ _ (by kernel_rfl) (setRow_heap _ _ _ _ _ _ hr5) Tryd.underlying23 rfl (by kernel_rfl)) rfl ⟨rfl, below_setRow HB5 (Nat.le_refl _) _⟩

theorem beqF {a b : Nat} (h : ¬ a = b) : (((a : Nat) : Int) == ((b : Nat) : Int)) = false := beq_eq_false_iff_ne.2 (by omega)
theorem beqT {a b : Nat} (h : a = b) : (((a : Nat) : Int) == ((b : Nat) : Int)) = true := beq_iff_eq.2 (by omega)
theorem rfill_any (op : Int) (l : List Int) (v : Value) (B : Nat) (w : World) (h : w.ownsRow B 3 1 v l.length (inI l)) :
    Calls Tryd.prog 31 #[.int .i64 op, v] w fun e w' => e = .returned (fl op l).val ∧ Below w.heap.size w w' := by
  unfold fl
  by_cases h69 : frm op = 69
  · rw [if_pos h69]; exact rfill_e op h69.symm v w
  rw [if_neg h69]
  obtain ⟨p, c, hv⟩ := own_slice h
  by_cases h2 : l.length = 2
  · obtain ⟨g, cap, hv', hg, hc⟩ := own_ints h (by omega)
    have x0 := hc 0 (by omega)
    have x1 := hc 1 (by omega)
    by_cases h85 : frm op = 85
    · rw [if_pos ⟨h2, .inl h85⟩, hv', h2]; exact rfill_85 op h85.symm g cap _ _ w hg x0 x1
    by_cases h74 : frm op = 74
    · rw [if_pos ⟨h2, .inr h74⟩, hv', h2]; exact rfill_74 op h74.symm g cap _ _ w hg x0 x1
    rw [if_neg (fun h => h.2.elim h85 h74), if_pos (by omega), hv]
    exact rfill_2 op (frm op) rfl (beqF h69) l.length (beqT h2) (beqF h85) (beqF h74) p c w
  rw [if_neg (fun h => h2 h.1)]
  by_cases h3 : l.length = 3
  · rw [if_neg (by omega)]
    obtain ⟨g, cap, hv', hg, hc⟩ := own_ints h (by omega)
    have x0 := hc 0 (by omega)
    have x1 := hc 1 (by omega)
    have x2 := hc 2 (by omega)
    rw [hv', h3]
    by_cases h82 : frm op = 82
    · rw [if_pos h82]; exact rfill_82 op h82.symm g cap _ _ _ w hg x0 x1 x2
    rw [if_neg h82]
    by_cases h66 : frm op = 66
    · rw [if_pos h66]; exact rfill_66 op h66.symm g cap _ _ _ w hg x0 x1 x2
    rw [if_neg h66]
    by_cases h83 : frm op = 83
    · rw [if_pos h83]; exact rfill_83 op h83.symm g cap _ _ _ w hg x0 x1 x2
    rw [if_neg h83]
    cases hm : isM op
    · rw [if_neg (by simp)]; exact rfill_i op (frm op) rfl (beqF h69) (beqF h82) (beqF h66) (beqF h83) hm g cap _ _ _ w hg x0 x1 x2
    · rw [if_pos rfl]; exact rfill_in op (frm op) rfl (beqF h69) (beqF h82) (beqF h66) (beqF h83) hm g cap _ _ _ w hg x0 x1 x2
  · rw [if_pos h3, hv]
    exact rfill_n op (frm op) rfl (beqF h69) l.length (beqF h3) (beqF h2) p c w
end Go.Proofs.YtdjladaefoedfaaDoor
