/-
  Contract of the document's Lines.
  Contract of the document's Read.
-/

import Derived.Test.YtdjladaefoedfaaDoorZA5
import Derived.Test.YtdjladaefoedfaaDoorZA8
import Derived.Test.YtdjladaefoedfaaDoorZA9
import Derived.Test.YtdjladaefoedfaaDoorZB2
namespace Go.Proofs.YtdjladaefoedfaaDoor
open Go.RowKit Ip As Go.Lib

set_option maxHeartbeats 4000000 in
set_option maxRecDepth 100000 in
theorem rlines_core (l : List Ins) (g o c : Nat) (hl : l.length ≤ 1000) (w : World) (hg : g < w.heap.size) (hc : ∀ j, j < l.length * 5 → w.cell? ⟨g, o + j, none⟩ = (csOf l)[j]?) :
    Calls Tryd.prog 19 #[.slice (some ⟨g, o, none⟩) l.length c] w fun e w' => e = .returned (.tuple #[.string ⟨(lnV l).toArray⟩, .int .i64 (lnE l)]) ∧ Below w.heap.size w w' := by
  have HC : Hid (∀ j, j < l.length * 5 → w.cell? ⟨g, o + j, none⟩ = (csOf l)[j]?) := hc
  have hz := zeroX
  clear hc
  go_enter Tryd.func19, Tryd.ntmps19
  go_wp2
  go_loopg [4, 5] l.length (fun q s i wr => ∃ k : Nat, k + q = l.length ∧ i = .int .i64 (k : Int) ∧ s = .string ⟨(flat (l.take k)).toArray⟩ ∧ (∀ (j : Nat) (x : Ins), j < k → l[j]? = some x → x.ok = true) ∧ Below w.heap.size w wr)
  case atStart => exact ⟨0, by omega, rfl, rfl, fun j x hj => absurd hj (by omega), Below.refl _ _⟩
  case round =>
    obtain ⟨k, hkq, rfl, rfl, hok, hb⟩ := hrel
    have HO : Hid (∀ (j : Nat) (x : Ins), j < k → l[j]? = some x → x.ok = true) := hok
    clear hok
    cases gk with
    | zero =>
      obtain rfl : k = l.length := by omega
      have hk : ¬ ((l.length : Int) < (l.length : Int)) := by omega
      rw [List.take_length]
      go_wp2_with fail
      go_ret2
      have e := ln_good (l := l) (fun j x hj => HO.out j x (List.getElem?_eq_some_iff.1 hj).1 hj)
      rw [e.1, e.2]
      exact ⟨rfl, hb⟩
    | succ q =>
      have hk : ((k : Int) < (l.length : Int)) := by omega
      have hk0 : (0 : Int) ≤ (k : Int) := by omega
      have hwk : IntKind.i64.wrap ((k : Int) + 1) = (k : Int) + 1 := wr64 (by omega) (by omega)
      obtain ⟨x, hx⟩ : ∃ x, l[k]? = some x := ⟨l[k]'(by omega), List.getElem?_eq_getElem (by omega)⟩
      have hcell : ∀ (p : Nat), wr.cell? ⟨g, p, none⟩ = w.cell? ⟨g, p, none⟩ := fun p => by simp only [World.cell?, hb.block g hg]
      obtain ⟨a0, a1, a2, a3, a4⟩ := SlA.at HC.out k x hx
      rw [← hcell] at a0 a1 a2 a3 a4
      have Hx : Hid (l[k]? = some x) := hx
      clear hx hcell
      cases x with
      | mk op rd rs1 rs2 imm =>
      simp only [] at a0 a1 a2 a3 a4
      go_wp2_with fail
      cases hok : (Ins.mk op rd rs1 rs2 imm).ok
      · refine (rprint_any ⟨op, rd, rs1, rs2, imm⟩ _).mono ?_
        rintro e w2 ⟨he, hb2⟩
        have e1 : prV ⟨op, rd, rs1, rs2, imm⟩ = [] := by unfold prV; rw [hok]; rfl
        have e2 : prE ⟨op, rd, rs1, rs2, imm⟩ = 20 := by unfold prE; rw [hok]; rfl
        rw [e1, e2] at he
        subst he
        have hb02 := hb.trans (hb2.mono hb.size)
        have e := ln_bad Hx.out hok
        have He : Hid (lnV l = [] ∧ lnE l = 20) := e
        clear hb2 e hok a0 a1 a2 a3 a4 e1 e2
        go_wp2_with fail
        go_ret2
        rw [He.out.1, He.out.2]
        exact ⟨rfl, hb02⟩
      · have htl := txt_lenA _ (fine_of hok)
        refine (rprint_any ⟨op, rd, rs1, rs2, imm⟩ _).mono ?_
        rintro e w2 ⟨he, hb2⟩
        have e1 : prV ⟨op, rd, rs1, rs2, imm⟩ = txt ⟨op, rd, rs1, rs2, imm⟩ := by unfold prV; rw [hok]; rfl
        have e2 : prE ⟨op, rd, rs1, rs2, imm⟩ = 0 := by unfold prE; rw [hok]; rfl
        rw [e1, e2] at he
        subst he
        have hb02 := hb.trans (hb2.mono hb.size)
        have hfl : (flat (l.take k)).length ≤ 1000000 + 1000 := by
          have := flat_len (l.take k) (fun y hy => by
            obtain ⟨j, hj⟩ := List.getElem?_of_mem hy
            have hjk : j < k := by have := (List.getElem?_eq_some_iff.1 hj).1; simp at this; omega
            rw [List.getElem?_take_of_lt hjk] at hj
            exact HO.out j y hjk hj)
          simp at this; omega
        obtain ⟨T, hT⟩ : ∃ T, T = txt ⟨op, rd, rs1, rs2, imm⟩ ++ [10] := ⟨_, rfl⟩
        have c1 := cat_to (txt ⟨op, rd, rs1, rs2, imm⟩) [10] T hT (by simp only [List.length_cons, List.length_nil]; omega)
        have c2 := cat_to (flat (l.take k)) T (flat (l.take (k + 1))) (by rw [hT]; exact flat_take l k _ Hx.out) (by rw [hT]; simp only [List.length_append, List.length_cons, List.length_nil]; omega)
        have Hok : Hid ((Ins.mk op rd rs1 rs2 imm).ok = true) := hok
        clear hb2 hok a0 a1 a2 a3 a4 e1 e2 hT htl hfl
        go_wp2_with fail
        go_roundg q
        case measure => omega
        case rel =>
          refine ⟨k + 1, by omega, by simp, rfl, fun j x hj hx => ?_, hb02⟩
          by_cases hjk : j = k
          · subst hjk; rw [Hx.out] at hx; injection hx with hx; rw [← hx]; exact Hok.out
          · exact HO.out j x (by omega) hx

set_option maxHeartbeats 4000000 in
set_option maxRecDepth 100000 in
theorem rlines_nil (p : Option Addr) (c : Nat) (w : World) : Calls Tryd.prog 19 #[.slice p 0 c] w fun e w' => e = .returned (.tuple #[.string ⟨#[]⟩, .int .i64 0]) ∧ Below w.heap.size w w' := by
  go_enter Tryd.func19, Tryd.ntmps19
  go_wp2
  go_loopw [4, 5] (fun s i wr => s = .string ⟨#[]⟩ ∧ i = .int .i64 0 ∧ wr = w) (fun _ _ _ => 0)
  case atStart => exact ⟨rfl, rfl, rfl⟩
  case round =>
    obtain ⟨rfl, rfl, hw⟩ := hrel
    rw [hw]
    clear hw
    go_wp2_with fail
    go_ret2
    exact ⟨rfl, Below.refl _ _⟩
theorem rlines_any (v : Value) (l : List Ins) (hl : l.length ≤ 1000) (w : World) (hS : SlA w v l) :
    Calls Tryd.prog 19 #[v] w fun e w' => e = .returned (.tuple #[.string ⟨(lnV l).toArray⟩, .int .i64 (lnE l)]) ∧ Below w.heap.size w w' := by
  rcases hS with ⟨p, c, rfl, rfl⟩ | ⟨g, o, c, rfl, hg, hc⟩
  · exact rlines_nil p c w
  · exact rlines_core l g o c hl w hg hc
end Go.Proofs.YtdjladaefoedfaaDoor
namespace Go.Proofs.YtdjladaefoedfaaDoor
open Go.RowKit Ip As Go.Lib

theorem slice_mid (t : List UInt8) (f i : Nat) (hf : f ≤ i) (h : i ≤ t.length) (w : World) : (Instr.slice 9 (.string ⟨t.toArray⟩) (some (.int .i64 (f : Int))) (some (.int .i64 (i : Int))) none).run Tryd.prog w = .ok (.string ⟨((t.take i).drop f).toArray⟩) w := by
  have c0 : (0 : Int) ≤ (f : Int) := by omega
  have c1 : (f : Int) ≤ (i : Int) := by omega
  have c2 : (i : Int) ≤ ((⟨t.toArray⟩ : ByteArray).size : Int) := by show (i : Int) ≤ (t.length : Int); omega
  have e : (⟨((t.take i).drop f).toArray⟩ : ByteArray) = (⟨t.toArray⟩ : ByteArray).extract f i := by
    apply ByteArray.ext
    apply Array.ext'
    simp [ByteArray.data_extract, List.drop_take]
  rw [e]
  generalize (⟨t.toArray⟩ : ByteArray) = S at c2 ⊢
  go_simp
theorem cut10 (s : List UInt8) (f i : Nat) (hf : f ≤ i) (hi : s[i]? = some 10) (hno : ∀ j b, f ≤ j → j < i → s[j]? = some b → b ≠ 10) :
    s.drop f ≠ [] ∧ ¬ Lib.indexByte (s.drop f) 10 < 0 ∧ upTo 10 (s.drop f) = (s.take i).drop f ∧ behind 10 (s.drop f) = s.drop (i + 1) := by
  have hil := (List.getElem?_eq_some_iff.1 hi).1
  have e : s.drop f = (s.take i).drop f ++ 10 :: s.drop (i + 1) := by
    conv => lhs; rw [← List.take_append_drop i s, drop_cons s i 10 hi]
    rw [List.drop_append_of_le_length (by rw [List.length_take]; omega)]
  have hall : ∀ b ∈ (s.take i).drop f, b ≠ 10 := fun b hb => by
    obtain ⟨j, hj⟩ := List.mem_iff_getElem?.1 hb
    rw [List.getElem?_drop] at hj
    have hlt : f + j < i := by
      have := (List.getElem?_eq_some_iff.1 hj).1
      rw [List.length_take] at this; omega
    rw [List.getElem?_take_of_lt hlt] at hj
    exact hno (f + j) b (by omega) hlt hj
  rw [e]
  refine ⟨by simp, ?_, upTo_app _ _ _ hall, behind_app _ _ _ hall⟩
  rw [ib_app _ _ _ hall]; omega
theorem cut_no (s : List UInt8) (f : Nat) (hno : ∀ j b, f ≤ j → j < s.length → s[j]? = some b → b ≠ 10) : Lib.indexByte (s.drop f) 10 < 0 := by
  rw [ib_none _ _ (fun b hb => by
    obtain ⟨j, hj⟩ := List.mem_iff_getElem?.1 hb
    rw [List.getElem?_drop] at hj
    exact hno (f + j) b (by omega) (List.getElem?_eq_some_iff.1 hj).1 hj)]
  omega

set_option maxHeartbeats 4000000 in
set_option maxRecDepth 100000 in
theorem rread_any (s : List UInt8) (hs : s.length ≤ 100000) (w : World) :
    Calls Tryd.prog 21 #[.string ⟨s.toArray⟩] w fun e w' => ∃ v, e = .returned (.tuple #[v, .int .i64 (rdE s)]) ∧ w'.ownsRow w.heap.size 23 5 v (rdV s).length (csOf (rdV s)) ∧ Below w.heap.size w w' := by
  have hz := zeroX
  obtain ⟨i0, hi, hz0, hz1, hz2⟩ := info_partsA infoX
  go_enter Tryd.func21, Tryd.ntmps21
  go_wp2
  go_loopg [4, 5, 6] s.length (fun q v f i wr => ∃ (k m : Nat) (vs : List Ins), k + q = s.length ∧ m ≤ k ∧ i = .int .i64 (k : Int) ∧ f = .int .i64 (m : Int) ∧ vs.length ≤ m ∧ (∀ j b, m ≤ j → j < k → s[j]? = some b → b ≠ 10) ∧ Rest s vs (s.drop m) ∧ wr.ownsRow w.heap.size 23 5 v vs.length (csOf vs) ∧ Below w.heap.size w wr)
  case atStart => exact ⟨0, 0, [], by omega, by omega, rfl, rfl, by simp, fun j b _ h => absurd h (by omega), by unfold Rest; rw [List.drop_zero]; cases rd s <;> rfl, ⟨rfl, .inr ⟨w.heap.size, 0, #[], rfl, Nat.le_refl _, heap_alloc_new _ _, Nat.le_refl _, Nat.zero_le _, rfl, rfl⟩⟩, (Below.refl _ _).alloc (Nat.le_refl _) _⟩
  case round =>
    obtain ⟨k, m, vs, hkq, hmk, rfl, rfl, hvm, hno, hR, hrow, hb⟩ := hrel
    have HR : Hid (Rest s vs (s.drop m)) := hR
    have HN : Hid (∀ j b, m ≤ j → j < k → s[j]? = some b → b ≠ 10) := hno
    clear hR hno
    cases gk with
    | zero =>
      obtain rfl : k = s.length := by omega
      have hk : ¬ ((s.length : Int) < (s.length : Int)) := by omega
      by_cases hms : m < s.length
      · have hm1 : ((m : Int) < (s.length : Int)) := by omega
        go_wp2_with fail
        go_ret2
        have e := rd_noneE (HR.out.bad (fun h => by have := List.drop_eq_nil_iff.1 h; omega) (cut_no s m HN.out))
        rw [e.1, e.2]
        exact ⟨_, rfl, World.ownsRow_nil _ _ _ _, hb⟩
      · have hm1 : ¬ ((m : Int) < (s.length : Int)) := by omega
        have HR2 : Hid (Rest s vs []) := by
          have := HR.out
          rw [List.drop_eq_nil_of_le (by omega)] at this; exact this
        go_wp2_with fail
        go_ret2
        have e := rd_someE HR2.out.done
        rw [e.1, e.2]
        exact ⟨_, rfl, hrow, hb⟩
    | succ q =>
      have hk : ((k : Int) < (s.length : Int)) := by omega
      have hwk : IntKind.i64.wrap ((k : Int) + 1) = (k : Int) + 1 := wr64 (by omega) (by omega)
      obtain ⟨b, hb0⟩ : ∃ b, s[k]? = some b := ⟨s[k]'(by omega), List.getElem?_eq_getElem (by omega)⟩
      have hix := idx_at s k (k : Int) b rfl hb0
      by_cases hb10 : b = 10
      · have hq : ((b.toNat : Int) == 10) = true := by rw [hb10]; rfl
        obtain ⟨ht, hni, hup, hbh⟩ := cut10 s m k hmk (by rw [hb0, hb10]) HN.out
        have hsl := slice_mid s m k hmk (by omega)
        rw [← hup] at hsl
        obtain ⟨A, hA⟩ : ∃ A, upTo 10 (s.drop m) = A := ⟨_, rfl⟩
        rw [hA] at hsl
        have hul : A.length ≤ 100000 := by
          have := upTo_len 10 (s.drop m)
          rw [hA, List.length_drop] at this; omega
        have HA : Hid (upTo 10 (s.drop m) = A) := hA
        have HT : Hid (s.drop m ≠ []) := ht
        have Hn : Hid (¬ Lib.indexByte (s.drop m) 10 < 0) := hni
        have HBh : Hid (behind 10 (s.drop m) = s.drop (k + 1)) := hbh
        clear hA ht hni hbh hup hb0 hb10
        go_wp2_with fail
        refine (rparse_any A hul _).mono ?_
        rintro e w2 ⟨he, hb2⟩
        have hrow2 := ownA_below hrow hb2
        have hb02 := hb.trans (hb2.mono hb.size)
        clear hb2 hrow hb
        cases hp : prs A with
        | none =>
          have e := ps_none hp
          rw [e.1, e.2] at he
          subst he
          have Hp : Hid (prs A = none) := hp
          clear hp e
          go_wp2
          go_ret2
          have e := rd_noneE (HR.out.no HT.out (by have := Hn.out; omega) (by rw [HA.out]; exact Hp.out))
          rw [e.1, e.2]
          exact ⟨_, rfl, World.ownsRow_nil _ _ _ _, hb02.alloc hb02.size _⟩
        | some x =>
          have e := ps_some hp
          rw [e.1, e.2] at he
          subst he
          have Hp : Hid (prs A = some x) := hp
          clear hp e
          cases x with
          | mk op rd rs1 rs2 imm =>
          go_wp2_with (first
            | (at_builtin; refine wpList_append_own _ rfl _ _ 34 rfl w.heap.size 23 i0 (.agg #[.int .i64 0, .int .i64 0, .int .i64 0, .int .i64 0, .int .i64 0]) 5 40 Tryd.underlying34 hi hz0 hz1 hz2 rfl (by decide) _ _ _ rfl ((hrow2.alloc _).alloc _) ⟨w2.heap.size + 1, 0, none⟩ 1 1 [.int .i64 op, .int .i64 rd, .int .i64 rs1, .int .i64 rs2, .int .i64 imm] rfl rfl (cell_five_new _ _ (by simp) _ _ _ _ _ _) (by simp [Value.oneCell']) (by unfold maxLen; omega) (by omega) (by have := hb02.size; simp; omega) ?_; intro v' w3 hown' hgrow hnil'))
          go_roundg q
          case measure => omega
          case rel =>
            have hb3 : Below w.heap.size w w3 := ((hb02.alloc hb02.size _).alloc (by have := hb02.size; simp; omega) _).grown hgrow (by have := hb02.size; simp; omega) (fun j e => (hrow2.lt j e).1)
            have hR2 := HR.out.on HT.out (by have := Hn.out; omega) _ (by rw [HA.out]; exact Hp.out)
            rw [HBh.out] at hR2
            exact ⟨k + 1, k + 1, vs ++ [⟨op, rd, rs1, rs2, imm⟩], by omega, by omega, by simp, by simp, by simp; omega, fun j b h1 h2 => absurd h2 (by omega), hR2, by rw [csOf_app, List.length_append]; exact hown', hb3⟩
      · have hq : ((b.toNat : Int) == 10) = false := beq_eq_false_iff_ne.2 (fun e => hb10 (UInt8.toNat_inj.1 (by show b.toNat = 10; omega)))
        have Hb : Hid (s[k]? = some b) := hb0
        have Hb3 : Hid (b ≠ 10) := hb10
        clear hb0 hb10
        go_wp2_with fail
        go_roundg q
        case measure => omega
        case rel =>
          exact ⟨k + 1, m, vs, by omega, by omega, by simp, rfl, hvm, fun j c h1 hj hc => by
            by_cases e : j = k
            · rw [e, Hb.out] at hc; injection hc with hc; rw [← hc]; exact Hb3.out
            · exact HN.out j c h1 (by omega) hc, HR.out, hrow, hb⟩
end Go.Proofs.YtdjladaefoedfaaDoor
