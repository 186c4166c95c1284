/-
  AsmRows (P5.2): lines are as many as there are instructions; a line that is none spoils all; for every input (the law reads at most 30 instructions and 40 bytes). What the listed package variables hold is tied to the program by the card.
  The walk of AsmRows.
-/
import Derived.Test.YtdjladaefoedfabDoorRows
import Derived.Test.YtdjladaefoedfabDoorTie
import Derived.Test.YtdjladaefoedfabDoorCards
import Derived.WalkKit
import Derived.ProofKit
import Derived.OpenShut
import Derived.Carry
import Derived.ChangeMaps
import Derived.SevenTiedAt
import Derived.Test.YtdjladaefoedfabDoorZA6
import Derived.Test.YtdjladaefoedfabDoorZA7
import Derived.Test.YtdjladaefoedfabDoorZA9
namespace Go.Proofs.YtdjladaefoedfabDoor
open Go.RowKit Ip As Go.Lib
open Classical

theorem cut_takeK (s : ByteArray) (K : Nat) : s.extract 0 (min (s.size : Int) (K : Int)).toNat = ⟨(s.data.toList.take K).toArray⟩ := by
  rw [ext_take]
  congr 2
  have : s.data.toList.length = s.size := (Lib.size_eq s).symm
  by_cases h : s.size ≤ K
  · rw [List.take_of_length_le (by omega), List.take_of_length_le (by omega)]
  · rw [show (min (s.size : Int) (K : Int)).toNat = K by omega]
/-- How many bytes of the first k are 10. -/
def cnt (l : List UInt8) (k : Nat) : Nat := (l.take k).count 10
theorem cnt_step (l : List UInt8) (k : Nat) (b : UInt8) (h : l[k]? = some b) : cnt l (k + 1) = cnt l k + if b = 10 then 1 else 0 := by
  unfold cnt; rw [List.take_add_one, h, List.count_append]
  by_cases hb : b = 10
  · subst hb; simp
  · simp [hb]
theorem cnt_flat (l : List Ins) : cnt (flat l) (flat l).length = l.length := by
  unfold cnt; rw [List.take_length]
  induction l with
  | nil => rfl
  | cons x l ih =>
    have : (txt x).count 10 = 0 := List.count_eq_zero.2 (fun h => txt_no10 x 10 h rfl)
    simp only [flat, List.count_append, ih, this]; simp; omega


theorem take_min (l : List Ins) (m : Nat) (K : Nat) (hm : m = min l.length K) : l.take m = l.take K := by
  rw [hm]
  by_cases h : l.length ≤ K
  · rw [Nat.min_eq_left h, List.take_length, List.take_of_length_le h]
  · rw [Nat.min_eq_right (by omega)]

set_option maxHeartbeats 8000000 in
set_option maxRecDepth 100000 in
theorem asmRows_bad (p : Option Addr) (c : Nat) (l : List Ins) (s : ByteArray) (w : World) (hG : Gl w) (hS : SlA w (.slice p l.length c) l) (hc : l.length ≤ c) (_ : c ≤ 9223372036854775807) (hk : (l.take 30).all (·.ok) = false) :
    Calls Tryd.prog 3 #[.slice p l.length c, .string s] w fun e w' => e = .returned (.bool true) ∧ Below w.heap.size w w' := by
  have HG : Hid (Gl w) := hG
  obtain ⟨m, hm⟩ : ∃ m, m = min l.length 30 := ⟨_, rfl⟩
  have hmi : min (l.length : Int) 30 = (m : Int) := by omega
  have hm0 : (0 : Int) ≤ (m : Int) := by omega
  have hmc : (m : Int) ≤ (c : Int) := by omega
  have hct : s.extract 0 (min (s.size : Int) 40).toNat = ⟨(s.data.toList.take 40).toArray⟩ := cut_takeK s 40
  have hS1 := hS.cut m (by omega)
  have hLm : (l.take m).length = m := by simp; omega
  rw [← take_min l m 30 hm] at hk
  generalize hL : l.take m = L at hS1 hLm hk
  generalize hO : s.data.toList.take 40 = O at hct
  have hOl : O.length ≤ 40 := by rw [← hO]; simp; omega
  have HS : Hid (SlA w (.slice p m c) L) := hS1
  have hm30 : m ≤ 30 := by omega
  have e1 : lnV L = [] ∧ lnE L = 20 := by unfold lnV lnE; rw [hk]; exact ⟨rfl, rfl⟩
  have HL := hideA (lines_any (.slice p m c) L (by omega) w HS.out HG.out)
  rw [e1.1, e1.2] at HL
  clear e1 hk
  clear hG hS hS1 hm hc hL hO
  go_enter Tryd.func3, Tryd.ntmps3
  go_wp2_with fail
  refine HL.out.mono ?_
  rintro e w1 ⟨rfl, hb⟩
  go_wp2_with (go_at_call 6; refine (fixed5_any _ (HG.out.grow hb)).mono ?_; rintro e w2 ⟨rfl, hb2⟩)
  go_ret
  exact ⟨rfl, hb.trans (hb2.mono hb.size)⟩

set_option maxHeartbeats 8000000 in
set_option maxRecDepth 100000 in
theorem asmRows_none (p : Option Addr) (c : Nat) (l : List Ins) (s : ByteArray) (w : World) (hG : Gl w) (hS : SlA w (.slice p l.length c) l) (hc : l.length ≤ c) (_ : c ≤ 9223372036854775807) (hk : (l.take 30).all (·.ok) = true) (hp : prs (s.data.toList.take 40) = none) (h10 : No10 (s.data.toList.take 40)) :
    Calls Tryd.prog 3 #[.slice p l.length c, .string s] w fun e w' => e = .returned (.bool true) ∧ Below w.heap.size w w' := by
  have HG : Hid (Gl w) := hG
  obtain ⟨m, hm⟩ : ∃ m, m = min l.length 30 := ⟨_, rfl⟩
  have hmi : min (l.length : Int) 30 = (m : Int) := by omega
  have hm0 : (0 : Int) ≤ (m : Int) := by omega
  have hmc : (m : Int) ≤ (c : Int) := by omega
  have hct : s.extract 0 (min (s.size : Int) 40).toNat = ⟨(s.data.toList.take 40).toArray⟩ := cut_takeK s 40
  have hS1 := hS.cut m (by omega)
  have hLm : (l.take m).length = m := by simp; omega
  rw [← take_min l m 30 hm] at hk
  generalize hL : l.take m = L at hS1 hLm hk
  generalize hO : s.data.toList.take 40 = O at hct hp h10
  have hOl : O.length ≤ 40 := by rw [← hO]; simp; omega
  have HS : Hid (SlA w (.slice p m c) L) := hS1
  have hm30 : m ≤ 30 := by omega
  have e1 : lnV L = flat L ∧ lnE L = 0 := by unfold lnV lnE; rw [hk]; exact ⟨rfl, rfl⟩
  have hkx : ∀ x ∈ L, x.ok = true := fun x hx => List.all_eq_true.1 hk x hx
  have HKX : Hid (∀ x ∈ L, x.ok = true) := hkx
  have hfl := flat_len L hkx
  have HL := hideA (lines_any (.slice p m c) L (by omega) w HS.out HG.out)
  rw [e1.1, e1.2] at HL
  have HCF : Hid (cnt (flat L) (flat L).length = L.length) := cnt_flat L
  obtain ⟨A, hA⟩ : ∃ A, A = flat L ++ O := ⟨_, rfl⟩
  obtain ⟨B, hB⟩ : ∃ B, B = A ++ [10] := ⟨_, rfl⟩
  have hc1 := cat_to (flat L) O A hA (by omega)
  have hc2 := cat_to A [10] B hB (by rw [hA]; simp only [List.length_append, List.length_cons, List.length_nil]; omega)
  have hBl : B.length ≤ 100000 := by rw [hB, hA]; simp only [List.length_append, List.length_cons, List.length_nil]; omega
  have HP := hideA (ps_none hp)
  have HT : Hid (No10 O) := h10
  have HR := hideA (rd_noneE (l := B) (by rw [hB, hA, List.append_assoc, rd_flat L _ hkx, rd_line O [] h10, hp]))
  clear hp h10
  generalize hF : flat L = F at HL HCF hc1 hfl
  clear e1 hk hkx hA hB hF
  clear hG hS hS1 hm hc hL hO
  go_enter Tryd.func3, Tryd.ntmps3
  go_wp2_with fail
  refine HL.out.mono ?_
  rintro e w1 ⟨rfl, hb⟩
  go_wp2_with fail
  go_loopg [7, 8] F.length (fun q n i wr => ∃ k : Nat, k + q = F.length ∧ n = .int .i64 (cnt F k : Int) ∧ i = .int .i64 (k : Int) ∧ wr = w1)
  case atStart => exact ⟨0, by omega, rfl, rfl, rfl⟩
  case round =>
    obtain ⟨k, hkq, rfl, rfl, hw⟩ := hrel
    rw [hw]
    clear hw
    cases gk with
    | succ q =>
      have hk : ((k : Int) < (F.length : Int)) := by omega
      obtain ⟨b, hbk⟩ : ∃ b, F[k]? = some b := ⟨F[k]'(by omega), List.getElem?_eq_getElem (by omega)⟩
      have hix := idx_at F k (k : Int) b rfl hbk
      have hcs := cnt_step F k b hbk
      have hcl : cnt F k ≤ k := by unfold cnt; exact Nat.le_trans (List.count_le_length) (by simp; omega)
      have hwk : IntKind.i64.wrap ((k : Int) + 1) = (k : Int) + 1 := wr64 (by omega) (by omega)
      have hwn : IntKind.i64.wrap ((cnt F k : Int) + 1) = (cnt F k : Int) + 1 := wr64 (by omega) (by omega)
      have HC : Hid (cnt F (k + 1) = cnt F k + if b = 10 then 1 else 0) := hcs
      clear hcs hbk hcl
      by_cases h10 : b = 10
      · have hq : ((b.toNat : Int) == 10) = true := by rw [h10]; rfl
        have HN : Hid (cnt F (k + 1) = cnt F k + 1) := by show _ = _; rw [HC.out, if_pos h10]
        clear h10 HC
        go_wp2_with fail
        go_roundg q
        case measure => omega
        case rel => exact ⟨k + 1, by omega, by rw [HN.out]; simp, by simp, rfl⟩
      · have hq : ((b.toNat : Int) == 10) = false := beq_eq_false_iff_ne.2 (fun e => h10 (UInt8.toNat_inj.1 (by show b.toNat = 10; omega)))
        have HN : Hid (cnt F (k + 1) = cnt F k) := by show _ = _; rw [HC.out, if_neg h10]; rfl
        clear h10 HC
        go_wp2_with fail
        go_roundg q
        case measure => omega
        case rel => exact ⟨k + 1, by omega, by rw [HN.out], by simp, rfl⟩
    | zero =>
      obtain rfl : k = F.length := by omega
      have hk : ¬ ((F.length : Int) < (F.length : Int)) := by omega
      have hcf := HCF.out
      rw [hcf]
      clear hcf
      go_wp2_with fail
      refine (parse_any ⟨O.toArray⟩ (by show O.length ≤ _; omega) _ (HG.out.grow hb)).mono ?_
      rintro e w2 ⟨he, hb2⟩
      rw [show (⟨O.toArray⟩ : ByteArray).data.toList = O from rfl] at he
      have hb02 := hb.trans (hb2.mono hb.size)
      clear hb2
      rw [HP.out.1, HP.out.2] at he
      subst he
      go_wp2_with fail
      refine (read_any ⟨B.toArray⟩ (by show B.length ≤ _; omega) _ (HG.out.grow (hb02.alloc hb02.size _))).mono ?_
      rintro e w3 ⟨v, he, ho, hb3⟩
      rw [show (⟨B.toArray⟩ : ByteArray).data.toList = B from rfl] at he ho
      have hb03 := (hb02.alloc hb02.size _).trans (hb3.mono (hb02.alloc hb02.size _).size)
      clear hb3 hb02
      rw [HR.out.2] at he
      subst he
      clear ho
      go_wp2_with fail
      go_loopg [13] O.length (fun q i wr => ∃ k : Nat, k + q = O.length ∧ i = .int .i64 (k : Int) ∧ (∀ j : Nat, j < k → O[j]? ≠ some 10) ∧ wr = w3)
      case atStart => exact ⟨0, by omega, rfl, fun j hj => absurd hj (by omega), rfl⟩
      case round =>
        obtain ⟨k, hkq, rfl, hno, hw⟩ := hrel
        have HNO : Hid (∀ j : Nat, j < k → O[j]? ≠ some 10) := hno
        rw [hw]
        clear hw hno
        cases gk with
        | succ q =>
          have hk2 : ((k : Int) < (O.length : Int)) := by omega
          obtain ⟨b, hbk⟩ : ∃ b, O[k]? = some b := ⟨O[k]'(by omega), List.getElem?_eq_getElem (by omega)⟩
          have hix := idx_at O k (k : Int) b rfl hbk
          have hwk : IntKind.i64.wrap ((k : Int) + 1) = (k : Int) + 1 := wr64 (by omega) (by omega)
          have Hbk : Hid (O[k]? = some b) := hbk
          clear hbk
          have hb10 : b ≠ 10 := HT.out b (List.mem_of_getElem? Hbk.out)
          have hq : ((b.toNat : Int) == 10) = false := beq_eq_false_iff_ne.2 (fun e => hb10 (UInt8.toNat_inj.1 (by show b.toNat = 10; omega)))
          have Hb10 : Hid (b ≠ 10) := hb10
          clear hb10
          go_wp2_with fail
          go_roundg q
          case measure => omega
          case rel => exact ⟨k + 1, by omega, by simp, fun j hj => by
            by_cases h : j = k
            · rw [h, Hbk.out]; intro e; injection e with e; exact Hb10.out e
            · exact HNO.out j (by omega), rfl⟩
        | zero =>
          have hk2 : ¬ ((k : Int) < (O.length : Int)) := by omega
          go_wp2_with (go_at_call 6; refine (fixed5_any _ (HG.out.grow hb03)).mono ?_; rintro e w5 ⟨rfl, hb5⟩)
          go_ret
          exact ⟨rfl, hb03.trans (hb5.mono hb03.size)⟩

set_option maxHeartbeats 8000000 in
set_option maxRecDepth 100000 in
theorem asmRows_some (p : Option Addr) (c : Nat) (l : List Ins) (s : ByteArray) (w : World) (hG : Gl w) (hS : SlA w (.slice p l.length c) l) (hc : l.length ≤ c) (_ : c ≤ 9223372036854775807) (x : Ins) (hk : (l.take 30).all (·.ok) = true) (hp : prs (s.data.toList.take 40) = some x) (h10 : No10 (s.data.toList.take 40)) :
    Calls Tryd.prog 3 #[.slice p l.length c, .string s] w fun e w' => e = .returned (.bool true) ∧ Below w.heap.size w w' := by
  have HG : Hid (Gl w) := hG
  obtain ⟨m, hm⟩ : ∃ m, m = min l.length 30 := ⟨_, rfl⟩
  have hmi : min (l.length : Int) 30 = (m : Int) := by omega
  have hm0 : (0 : Int) ≤ (m : Int) := by omega
  have hmc : (m : Int) ≤ (c : Int) := by omega
  have hct : s.extract 0 (min (s.size : Int) 40).toNat = ⟨(s.data.toList.take 40).toArray⟩ := cut_takeK s 40
  have hS1 := hS.cut m (by omega)
  have hLm : (l.take m).length = m := by simp; omega
  rw [← take_min l m 30 hm] at hk
  generalize hL : l.take m = L at hS1 hLm hk
  generalize hO : s.data.toList.take 40 = O at hct hp h10
  have hOl : O.length ≤ 40 := by rw [← hO]; simp; omega
  have HS : Hid (SlA w (.slice p m c) L) := hS1
  have hm30 : m ≤ 30 := by omega
  have e1 : lnV L = flat L ∧ lnE L = 0 := by unfold lnV lnE; rw [hk]; exact ⟨rfl, rfl⟩
  have hkx : ∀ x ∈ L, x.ok = true := fun x hx => List.all_eq_true.1 hk x hx
  have HKX : Hid (∀ x ∈ L, x.ok = true) := hkx
  have hfl := flat_len L hkx
  have HL := hideA (lines_any (.slice p m c) L (by omega) w HS.out HG.out)
  rw [e1.1, e1.2] at HL
  have HCF : Hid (cnt (flat L) (flat L).length = L.length) := cnt_flat L
  obtain ⟨A, hA⟩ : ∃ A, A = flat L ++ O := ⟨_, rfl⟩
  obtain ⟨B, hB⟩ : ∃ B, B = A ++ [10] := ⟨_, rfl⟩
  have hc1 := cat_to (flat L) O A hA (by omega)
  have hc2 := cat_to A [10] B hB (by rw [hA]; simp only [List.length_append, List.length_cons, List.length_nil]; omega)
  have hBl : B.length ≤ 100000 := by rw [hB, hA]; simp only [List.length_append, List.length_cons, List.length_nil]; omega
  have HP := hideA (ps_some hp)
  have HT : Hid (No10 O) := h10
  have HR := hideA (rd_someE (l := B) (m := L ++ [x]) (by rw [hB, hA, List.append_assoc, rd_flat L _ hkx, rd_line O [] h10, hp]; rfl))
  clear hp h10
  generalize hF : flat L = F at HL HCF hc1 hfl
  clear e1 hk hkx hA hB hF
  clear hG hS hS1 hm hc hL hO
  go_enter Tryd.func3, Tryd.ntmps3
  go_wp2_with fail
  refine HL.out.mono ?_
  rintro e w1 ⟨rfl, hb⟩
  go_wp2_with fail
  go_loopg [7, 8] F.length (fun q n i wr => ∃ k : Nat, k + q = F.length ∧ n = .int .i64 (cnt F k : Int) ∧ i = .int .i64 (k : Int) ∧ wr = w1)
  case atStart => exact ⟨0, by omega, rfl, rfl, rfl⟩
  case round =>
    obtain ⟨k, hkq, rfl, rfl, hw⟩ := hrel
    rw [hw]
    clear hw
    cases gk with
    | succ q =>
      have hk : ((k : Int) < (F.length : Int)) := by omega
      obtain ⟨b, hbk⟩ : ∃ b, F[k]? = some b := ⟨F[k]'(by omega), List.getElem?_eq_getElem (by omega)⟩
      have hix := idx_at F k (k : Int) b rfl hbk
      have hcs := cnt_step F k b hbk
      have hcl : cnt F k ≤ k := by unfold cnt; exact Nat.le_trans (List.count_le_length) (by simp; omega)
      have hwk : IntKind.i64.wrap ((k : Int) + 1) = (k : Int) + 1 := wr64 (by omega) (by omega)
      have hwn : IntKind.i64.wrap ((cnt F k : Int) + 1) = (cnt F k : Int) + 1 := wr64 (by omega) (by omega)
      have HC : Hid (cnt F (k + 1) = cnt F k + if b = 10 then 1 else 0) := hcs
      clear hcs hbk hcl
      by_cases h10 : b = 10
      · have hq : ((b.toNat : Int) == 10) = true := by rw [h10]; rfl
        have HN : Hid (cnt F (k + 1) = cnt F k + 1) := by show _ = _; rw [HC.out, if_pos h10]
        clear h10 HC
        go_wp2_with fail
        go_roundg q
        case measure => omega
        case rel => exact ⟨k + 1, by omega, by rw [HN.out]; simp, by simp, rfl⟩
      · have hq : ((b.toNat : Int) == 10) = false := beq_eq_false_iff_ne.2 (fun e => h10 (UInt8.toNat_inj.1 (by show b.toNat = 10; omega)))
        have HN : Hid (cnt F (k + 1) = cnt F k) := by show _ = _; rw [HC.out, if_neg h10]; rfl
        clear h10 HC
        go_wp2_with fail
        go_roundg q
        case measure => omega
        case rel => exact ⟨k + 1, by omega, by rw [HN.out], by simp, rfl⟩
    | zero =>
      obtain rfl : k = F.length := by omega
      have hk : ¬ ((F.length : Int) < (F.length : Int)) := by omega
      have hcf := HCF.out
      rw [hcf]
      clear hcf
      go_wp2_with fail
      refine (parse_any ⟨O.toArray⟩ (by show O.length ≤ _; omega) _ (HG.out.grow hb)).mono ?_
      rintro e w2 ⟨he, hb2⟩
      rw [show (⟨O.toArray⟩ : ByteArray).data.toList = O from rfl] at he
      have hb02 := hb.trans (hb2.mono hb.size)
      clear hb2
      rw [HP.out.1, HP.out.2] at he
      cases x with
      | mk op rd rs1 rs2 imm =>
      subst he
      go_wp2_with fail
      refine (read_any ⟨B.toArray⟩ (by show B.length ≤ _; omega) _ (HG.out.grow (hb02.alloc hb02.size _))).mono ?_
      rintro e w3 ⟨v, he, ho, hb3⟩
      rw [show (⟨B.toArray⟩ : ByteArray).data.toList = B from rfl] at he ho
      have hb03 := (hb02.alloc hb02.size _).trans (hb3.mono (hb02.alloc hb02.size _).size)
      clear hb3 hb02
      rw [HR.out.2] at he
      rw [HR.out.1] at ho
      subst he
      have hlen : (L ++ [Ins.mk op rd rs1 rs2 imm]).length = m + 1 := by simp [hLm]
      have hsl := SlA.of_owns ho
      obtain ⟨g, cp, rfl, hcp⟩ : ∃ g cp, v = .slice (some ⟨g, 0, none⟩) (m + 1) cp ∧ m + 1 ≤ cp := by
        rcases ho.2 with ⟨_, h0⟩ | ⟨g, cap, cur, h1, _, _, h4, _⟩
        · rw [hlen] at h0; omega
        · rw [hlen] at h1 h4; exact ⟨g, cap, h1, h4⟩
      have HSM : Hid (SlA w3 (.slice (some ⟨g, 0, none⟩) m cp) L) := by
        have := hsl.cut m (by omega)
        rwa [show (L ++ [Ins.mk op rd rs1 rs2 imm]).take m = L by rw [← hLm]; simp] at this
      have HSL : Hid (SlA w3 (.slice p m c) L) := HS.out.below hb03
      have hcp1 : (m : Int) ≤ (cp : Int) := by omega
      have hwm : IntKind.i64.wrap ((m : Int) + 1) = (m : Int) + 1 := wr64 (by omega) (by omega)
      clear ho hsl hlen hcp
      go_wp2_with fail
      go_loopg [13] O.length (fun q i wr => ∃ k : Nat, k + q = O.length ∧ i = .int .i64 (k : Int) ∧ (∀ j : Nat, j < k → O[j]? ≠ some 10) ∧ wr = w3)
      case atStart => exact ⟨0, by omega, rfl, fun j hj => absurd hj (by omega), rfl⟩
      case round =>
        obtain ⟨k, hkq, rfl, hno, hw⟩ := hrel
        have HNO : Hid (∀ j : Nat, j < k → O[j]? ≠ some 10) := hno
        rw [hw]
        clear hw hno
        cases gk with
        | succ q =>
          have hk2 : ((k : Int) < (O.length : Int)) := by omega
          obtain ⟨b, hbk⟩ : ∃ b, O[k]? = some b := ⟨O[k]'(by omega), List.getElem?_eq_getElem (by omega)⟩
          have hix := idx_at O k (k : Int) b rfl hbk
          have hwk : IntKind.i64.wrap ((k : Int) + 1) = (k : Int) + 1 := wr64 (by omega) (by omega)
          have Hbk : Hid (O[k]? = some b) := hbk
          clear hbk
          have hb10 : b ≠ 10 := HT.out b (List.mem_of_getElem? Hbk.out)
          have hq : ((b.toNat : Int) == 10) = false := beq_eq_false_iff_ne.2 (fun e => hb10 (UInt8.toNat_inj.1 (by show b.toNat = 10; omega)))
          have Hb10 : Hid (b ≠ 10) := hb10
          clear hb10
          go_wp2_with fail
          go_roundg q
          case measure => omega
          case rel => exact ⟨k + 1, by omega, by simp, fun j hj => by
            by_cases h : j = k
            · rw [h, Hbk.out]; intro e; injection e with e; exact Hb10.out e
            · exact HNO.out j (by omega), rfl⟩
        | zero =>
          have hk2 : ¬ ((k : Int) < (O.length : Int)) := by omega
          go_wp2_with fail
          refine (same_any _ _ L L _ HSM.out HSL.out (by omega)).mono ?_
          rintro e w4 ⟨he, hb4⟩
          rw [decide_eq_true rfl] at he
          subst he
          have hb04 := hb03.trans (hb4.mono hb03.size)
          go_wp2_with (go_at_call 6; refine (fixed5_any _ (HG.out.grow hb04)).mono ?_; rintro e w5 ⟨rfl, hb5⟩)
          go_ret
          exact ⟨rfl, hb04.trans (hb5.mono hb04.size)⟩

set_option maxHeartbeats 8000000 in
set_option maxRecDepth 100000 in
theorem asmRows_ten (p : Option Addr) (c : Nat) (l : List Ins) (s : ByteArray) (w : World) (hG : Gl w) (hS : SlA w (.slice p l.length c) l) (hc : l.length ≤ c) (_ : c ≤ 9223372036854775807) (hk : (l.take 30).all (·.ok) = true) (h10 : ¬ No10 (s.data.toList.take 40)) :
    Calls Tryd.prog 3 #[.slice p l.length c, .string s] w fun e w' => e = .returned (.bool true) ∧ Below w.heap.size w w' := by
  have HG : Hid (Gl w) := hG
  obtain ⟨m, hm⟩ : ∃ m, m = min l.length 30 := ⟨_, rfl⟩
  have hmi : min (l.length : Int) 30 = (m : Int) := by omega
  have hm0 : (0 : Int) ≤ (m : Int) := by omega
  have hmc : (m : Int) ≤ (c : Int) := by omega
  have hct : s.extract 0 (min (s.size : Int) 40).toNat = ⟨(s.data.toList.take 40).toArray⟩ := cut_takeK s 40
  have hS1 := hS.cut m (by omega)
  have hLm : (l.take m).length = m := by simp; omega
  rw [← take_min l m 30 hm] at hk
  generalize hL : l.take m = L at hS1 hLm hk
  generalize hO : s.data.toList.take 40 = O at hct h10
  have hOl : O.length ≤ 40 := by rw [← hO]; simp; omega
  have HS : Hid (SlA w (.slice p m c) L) := hS1
  have hm30 : m ≤ 30 := by omega
  have e1 : lnV L = flat L ∧ lnE L = 0 := by unfold lnV lnE; rw [hk]; exact ⟨rfl, rfl⟩
  have hkx : ∀ x ∈ L, x.ok = true := fun x hx => List.all_eq_true.1 hk x hx
  have HKX : Hid (∀ x ∈ L, x.ok = true) := hkx
  have hfl := flat_len L hkx
  have HL := hideA (lines_any (.slice p m c) L (by omega) w HS.out HG.out)
  rw [e1.1, e1.2] at HL
  have HCF : Hid (cnt (flat L) (flat L).length = L.length) := cnt_flat L
  obtain ⟨A, hA⟩ : ∃ A, A = flat L ++ O := ⟨_, rfl⟩
  obtain ⟨B, hB⟩ : ∃ B, B = A ++ [10] := ⟨_, rfl⟩
  have hc1 := cat_to (flat L) O A hA (by omega)
  have hc2 := cat_to A [10] B hB (by rw [hA]; simp only [List.length_append, List.length_cons, List.length_nil]; omega)
  have hBl : B.length ≤ 100000 := by rw [hB, hA]; simp only [List.length_append, List.length_cons, List.length_nil]; omega
  have HT : Hid (¬ No10 O) := h10
  clear h10
  generalize hF : flat L = F at HL HCF hc1 hfl
  clear e1 hk hkx hA hB hF
  clear hG hS hS1 hm hc hL hO
  go_enter Tryd.func3, Tryd.ntmps3
  go_wp2_with fail
  refine HL.out.mono ?_
  rintro e w1 ⟨rfl, hb⟩
  go_wp2_with fail
  go_loopg [7, 8] F.length (fun q n i wr => ∃ k : Nat, k + q = F.length ∧ n = .int .i64 (cnt F k : Int) ∧ i = .int .i64 (k : Int) ∧ wr = w1)
  case atStart => exact ⟨0, by omega, rfl, rfl, rfl⟩
  case round =>
    obtain ⟨k, hkq, rfl, rfl, hw⟩ := hrel
    rw [hw]
    clear hw
    cases gk with
    | succ q =>
      have hk : ((k : Int) < (F.length : Int)) := by omega
      obtain ⟨b, hbk⟩ : ∃ b, F[k]? = some b := ⟨F[k]'(by omega), List.getElem?_eq_getElem (by omega)⟩
      have hix := idx_at F k (k : Int) b rfl hbk
      have hcs := cnt_step F k b hbk
      have hcl : cnt F k ≤ k := by unfold cnt; exact Nat.le_trans (List.count_le_length) (by simp; omega)
      have hwk : IntKind.i64.wrap ((k : Int) + 1) = (k : Int) + 1 := wr64 (by omega) (by omega)
      have hwn : IntKind.i64.wrap ((cnt F k : Int) + 1) = (cnt F k : Int) + 1 := wr64 (by omega) (by omega)
      have HC : Hid (cnt F (k + 1) = cnt F k + if b = 10 then 1 else 0) := hcs
      clear hcs hbk hcl
      by_cases h10 : b = 10
      · have hq : ((b.toNat : Int) == 10) = true := by rw [h10]; rfl
        have HN : Hid (cnt F (k + 1) = cnt F k + 1) := by show _ = _; rw [HC.out, if_pos h10]
        clear h10 HC
        go_wp2_with fail
        go_roundg q
        case measure => omega
        case rel => exact ⟨k + 1, by omega, by rw [HN.out]; simp, by simp, rfl⟩
      · have hq : ((b.toNat : Int) == 10) = false := beq_eq_false_iff_ne.2 (fun e => h10 (UInt8.toNat_inj.1 (by show b.toNat = 10; omega)))
        have HN : Hid (cnt F (k + 1) = cnt F k) := by show _ = _; rw [HC.out, if_neg h10]; rfl
        clear h10 HC
        go_wp2_with fail
        go_roundg q
        case measure => omega
        case rel => exact ⟨k + 1, by omega, by rw [HN.out], by simp, rfl⟩
    | zero =>
      obtain rfl : k = F.length := by omega
      have hk : ¬ ((F.length : Int) < (F.length : Int)) := by omega
      have hcf := HCF.out
      rw [hcf]
      clear hcf
      go_wp2_with fail
      refine (parse_any ⟨O.toArray⟩ (by show O.length ≤ _; omega) _ (HG.out.grow hb)).mono ?_
      rintro e w2 ⟨he, hb2⟩
      rw [show (⟨O.toArray⟩ : ByteArray).data.toList = O from rfl] at he
      have hb02 := hb.trans (hb2.mono hb.size)
      clear hb2
      generalize psV O = Z at he
      generalize psE O = pe at he
      cases Z with
      | mk op rd rs1 rs2 imm =>
      subst he
      go_wp2_with fail
      refine (read_any ⟨B.toArray⟩ (by show B.length ≤ _; omega) _ (HG.out.grow (hb02.alloc hb02.size _))).mono ?_
      rintro e w3 ⟨v, he, ho, hb3⟩
      rw [show (⟨B.toArray⟩ : ByteArray).data.toList = B from rfl] at he ho
      have hb03 := (hb02.alloc hb02.size _).trans (hb3.mono (hb02.alloc hb02.size _).size)
      clear hb3 hb02
      generalize rdE B = re at he
      subst he
      clear ho
      go_wp2_with fail
      go_loopg [13] O.length (fun q i wr => ∃ k : Nat, k + q = O.length ∧ i = .int .i64 (k : Int) ∧ (∀ j : Nat, j < k → O[j]? ≠ some 10) ∧ wr = w3)
      case atStart => exact ⟨0, by omega, rfl, fun j hj => absurd hj (by omega), rfl⟩
      case round =>
        obtain ⟨k, hkq, rfl, hno, hw⟩ := hrel
        have HNO : Hid (∀ j : Nat, j < k → O[j]? ≠ some 10) := hno
        rw [hw]
        clear hw hno
        cases gk with
        | succ q =>
          have hk2 : ((k : Int) < (O.length : Int)) := by omega
          obtain ⟨b, hbk⟩ : ∃ b, O[k]? = some b := ⟨O[k]'(by omega), List.getElem?_eq_getElem (by omega)⟩
          have hix := idx_at O k (k : Int) b rfl hbk
          have hwk : IntKind.i64.wrap ((k : Int) + 1) = (k : Int) + 1 := wr64 (by omega) (by omega)
          have Hbk : Hid (O[k]? = some b) := hbk
          clear hbk
          by_cases hb10 : b = 10
          · have hq : ((b.toNat : Int) == 10) = true := by rw [hb10]; rfl
            clear hb10
            go_wp2_with (go_at_call 6; refine (fixed5_any _ (HG.out.grow hb03)).mono ?_; rintro e w5 ⟨rfl, hb5⟩)
            go_ret
            exact ⟨rfl, hb03.trans (hb5.mono hb03.size)⟩
          · have hq : ((b.toNat : Int) == 10) = false := beq_eq_false_iff_ne.2 (fun e => hb10 (UInt8.toNat_inj.1 (by show b.toNat = 10; omega)))
            have Hb10 : Hid (b ≠ 10) := hb10
            clear hb10
            go_wp2_with fail
            go_roundg q
            case measure => omega
            case rel => exact ⟨k + 1, by omega, by simp, fun j hj => by
              by_cases h : j = k
              · rw [h, Hbk.out]; intro e; injection e with e; exact Hb10.out e
              · exact HNO.out j (by omega), rfl⟩
        | zero =>
          exfalso
          refine HT.out (fun b hb hb10 => ?_)
          obtain ⟨j, hj⟩ := List.getElem?_of_mem hb
          exact HNO.out j (by have := (List.getElem?_eq_some_iff.1 hj).1; omega) (by rw [hj, hb10])

theorem asmRows_walk (p : Option Addr) (c : Nat) (l : List Ins) (s : ByteArray) (w : World) (hG : Gl w) (hS : SlA w (.slice p l.length c) l) (hc : l.length ≤ c) (hl : c ≤ 9223372036854775807) (_ : s.size ≤ 9223372036854775807) :
    Calls Tryd.prog 3 #[.slice p l.length c, .string s] w fun e w' => e = .returned (.bool true) ∧ Below w.heap.size w w' := by
  cases hk : (l.take 30).all (·.ok)
  · exact asmRows_bad p c l s w hG hS hc hl hk
  · by_cases h10 : No10 (s.data.toList.take 40)
    · cases hp : prs (s.data.toList.take 40) with
      | none => exact asmRows_none p c l s w hG hS hc hl hk hp h10
      | some x => exact asmRows_some p c l s w hG hS hc hl x hk hp h10
    · exact asmRows_ten p c l s w hG hS hc hl hk h10
end Go.Proofs.YtdjladaefoedfabDoor
namespace Go.Proofs.YtdjladaefoedfabDoor.asmRows
open Go.ChangeShapes Go.WideShapes Go.ChangeAt Go.RowKit Ip As
open Go.ChangeMaps (open_string shut_string)
set_option linter.unusedVariables false

theorem own : ownKnob Tryd.prog.godebug = none := by kernel_rfl

set_option maxRecDepth 100000 in
theorem lifted (os : Os) (started : os.Started) (H : Type) (enc : TypeId × Value → H) :
    ReturnsInHanded {} Tryd.checked os 3 .any (fun w args => (Rows.asmRowsSpec.pre enc Tryd.prog Tryd.f3 [] false w args ∧ laidMetH Tryd.prog laid5 w) ∧ sizedMet enc Tryd.prog Tryd.f3 (OpenSpec.ofChange Rows.asmRowsSpec) false w args)
      (Rows.asmRowsSpec.post enc Tryd.prog Tryd.f3 false true false false) := by
  refine returnsInHanded_of_change_and (C := Tryd.checked) (X := fun w _ => laidMetH Tryd.prog laid5 w) (fun _ _ _ hh h => h.of_heap hh) own started (by kernel_rfl) Tryd.func3
    (ChangeSpec.witness_shaped (enc := enc) (C := Tryd.checked) (os := os) (X := fun w _ => laidMetH Tryd.prog laid5 w) false (World.doorLaid Tryd.prog 400 os) #[.slice none 0 0, .string ⟨#[]⟩] 8 rfl (World.shaped_of_RefB (by kernel_rfl) (by kernel_rfl)) (by kernel_rfl) (by kernel_rfl) (by kernel_rfl) (door_met os _)) ?_
  intro W base args ds gs before hval0 hW _ hsz0 hL _
  have hG := gl_of_laid hL
  have hval : ∀ (j : Nat) t v, Tryd.f3.params[j]? = some t → args[j]? = some v → Value.okWide Tryd.prog W .any base t v := hval0
  have hW' := hW
  obtain ⟨p, q, hA0, hV, rfl, hfz, hnd⟩ := hW
  have hA : DataW.TrodAll enc Tryd.prog W 0 (fun _ => true) true Tryd.f3.params.toList args.toList ds p := hA0
  rw [Tryd.params3] at hA hval
  obtain ⟨v0, vs0, d0, ds0, p0, q0, hargs, rfl, rfl, h0, r0⟩ := trodAll_cons hA
  obtain ⟨v1, vs1, d1, ds1, p1, q1, rfl, rfl, rfl, h1, r1⟩ := trodAll_cons r0
  obtain ⟨rfl, rfl, rfl⟩ := trodAll_nil r1
  obtain rfl : args = #[v0, v1] := by cases args; simp_all
  obtain ⟨rfl, rfl⟩ := trodVars_none hV
  have hlt : ∀ x ∈ p0 ++ p1, x.block < W.heap.size := fun x hx => by simpa using hW'.lt x (by simpa using hx)
  have k0 := h0
  have l0 : ∀ x ∈ p0, x.block < W.heap.size := fun x hx => hlt x (by simp [hx])
  have k1 := h1
  have l1 : ∀ x ∈ p1, x.block < W.heap.size := fun x hx => hlt x (by simp [hx])
  obtain ⟨pi0, ci0, li0, rfl, hsl0, hcp0, hln0⟩ := open_insts (hval 0 22 v0 rfl rfl) h0
  obtain ⟨s1, rfl, rfl, rfl, w1⟩ := open_string Tryd.underlying9 (hval 1 9 v1 rfl rfl) h1
  have b1 : s1.size ≤ 9223372036854775807 := by unfold maxLen at w1; omega
  clear hA0 hval0
  refine (asmRows_walk pi0 ci0 li0 s1 W hG hsl0 hcp0 hln0 b1).mono fun e W' ⟨he, hg⟩ => ?_
  subst he
  exact ⟨_, rfl, _, _, _, [], _, [], hW', trodAll_mk1 (shut_bool Tryd.underlying4 _), (trodAll_cons_mk (Below.trod laidOut5 (by kernel_rfl) (of_decide_eq_true (by kernel_rfl)) k0 hg l0) (trodAll_cons_mk (Below.trod laidOut5 (by kernel_rfl) (of_decide_eq_true (by kernel_rfl)) k1 hg l1) trodAll_mk0)), rfl, hg.frame _, fun h => by cases h⟩

theorem over : Rows.asmRowsRow.holds Tryd.pinned (OpenSpec.ofChange Rows.asmRowsSpec) :=
  OpenClaim.holds_of_wide 3 Tryd.f3 rfl rfl rfl rfl rfl rfl rfl ⟨rfl, rfl, rfl, rfl, rfl⟩ rfl rfl rfl rfl rfl (by kernel_rfl) Tryd.func3 (by kernel_rfl)
    (of_decide_eq_true (by kernel_rfl)) (by unfold Func.isWrapper; first | (rw [if_pos (by decide +kernel)]; kernel_rfl) | (rw [if_neg (by decide +kernel)]; exact ⟨rfl, rfl⟩))
    (fun os started H enc _ => lifted os started H enc)

theorem proved : Rows.AsmRowsCardSaid :=
  Claim7.holds_tied_plain_at .later [] [.data, .data, .data, .sentinel, .sentinel, .data] true Rows.asmRowsCard.stood.harness true
    over (fun _ h => by cases h) (by kernel_rfl) (fun _ h => by cases h) asmRows_row_tie rfl ⟨rfl, rfl⟩ (by kernel_rfl) rfl
    (fun f fn hf hfn => by
      obtain rfl : f = 3 := Option.some.inj ((show Tryd.prog.funcNamed "whetstone/whetstonelaw05.AsmRows" = some 3 by kernel_rfl).symm.trans hf) |>.symm
      obtain rfl : fn = Tryd.f3 := (Option.some.inj (Tryd.func3.symm.trans hfn)).symm
      exact ⟨by kernel_rfl, fun j t ht => by
        rw [Tryd.params3] at ht
        have hm : t ∈ [22, 9] := by simpa using Array.mem_of_getElem? ht
        have hall : ([22, 9].all fun u => !Tryd.prog.wantsStandIn u) = true := by kernel_rfl
        exact (show Tryd.prog.wantsStandIn t = false by simpa using List.all_eq_true.1 hall t hm)⟩)
    (by kernel_rfl)
#print axioms proved
end Go.Proofs.YtdjladaefoedfabDoor.asmRows
