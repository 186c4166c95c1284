/-
  What does not count makes no difference to a plain instruction. No program in sight.
-/

import Derived.Test.YtcffpmicencfpabGreatZY1
import Derived.Test.YtcffpmicencfpabGreatZk
set_option linter.unusedVariables false
namespace Go.Proofs.YtcffpmicencfpabGreat
namespace Lv
open Bl Ip Cp

/-- Two machines have the same registers that count, and the same place. -/
def Agr (c d : Mach) (n : BitVec 32) : Prop := c.pc = d.pc ∧ ∀ r, 1 ≤ r → r < 32 → n.getLsbD r = true → c.x r = d.x r
theorem Agr.less {c d : Mach} {n m : BitVec 32} (h : Agr c d n) (hm : leB m n) : Agr c d m := ⟨h.1, fun r h1 h2 h3 => h.2 r h1 h2 (hm r h3)⟩
theorem one_get (r i : Nat) (hr : r < 32) (hi : i < 32) : (oneB (r : Int)).getLsbD i = (decide (r = i) && decide (i ≠ 0)) := by
  have h : ∀ r : Nat, r < 32 → ∀ i : Nat, i < 32 → (oneB (r : Int)).getLsbD i = (decide (r = i) && decide (i ≠ 0)) := by decide +kernel
  exact h r hr i hi
theorem zr_get (c : Mach) (i : Nat) : (zr c).x i = if i = 0 then (BitVec.ofNat 32 0) else c.x i := rfl
theorem zr_pc (c : Mach) : (zr c).pc = c.pc := rfl
/-- What a plain instruction reckons hangs on what it needs alone. -/
theorem reck_same {c d : Mach} {op rs1 rs2 imm : Int} (hpc : c.pc = d.pc) (h1 : (zr c).x rs1.toNat = (zr d).x rs1.toNat) (h2 : (zr c).x rs2.toNat = (zr d).x rs2.toNat) : reckV (zr c) op rs1 rs2 imm = reckV (zr d) op rs1 rs2 imm := by
  unfold reckV
  rw [h1, h2, zr_pc, zr_pc, hpc]
def dM (c : Mach) (x : Ins) : Mach := doesM c x.op x.rd x.rs1 x.rs2 x.imm
def dB (x : Ins) : Bool := doesB x.op x.rd x.rs1 x.rs2 x.imm
theorem plain_uses {x : Ins} (h : dB x = true) : rightI x = true ∧ usesB x = oneB x.rs1 ||| oneB x.rs2 ∧ setsB x = oneB x.rd := by
  unfold dB doesB at h
  rw [Bool.and_eq_true] at h
  have hr : rightI x = true := h.1
  have hp := of_decide_eq_true h.2
  refine ⟨hr, ?_, ?_⟩
  · unfold usesB
    rw [if_neg (by rw [hr]; intro e; rcases e with e | e | e
                   · cases e
                   · omega
                   · omega), if_neg (by omega)]
  · unfold setsB
    rw [if_neg (by rw [hr]; simp), if_neg (by omega)]
theorem reg_same {c d : Mach} {r : Int} (h0 : 0 ≤ r) (h1 : r < 32) {n : BitVec 32} (h : Agr c d n) (hn : leB (oneB r) n) : (zr c).x r.toNat = (zr d).x r.toNat := by
  obtain ⟨k, rfl⟩ := Int.eq_ofNat_of_zero_le h0
  rw [Int.toNat_natCast, zr_get, zr_get]
  by_cases e : k = 0
  · rw [if_pos e, if_pos e]
  · rw [if_neg e, if_neg e]
    refine h.2 k (by omega) (by omega) (hn k ?_)
    rw [one_get k k (by omega) (by omega)]; simp [e]
theorem keeps_one {c d : Mach} {x : Ins} {n : BitVec 32} (hd : dB x = true) (h : Agr c d (stepB x n)) : Agr (dM c x) (dM d x) n := by
  obtain ⟨hr, hu, hs⟩ := plain_uses hd
  have hg := right_regs hr
  have hle : leB (usesB x) (stepB x n) := fun i hi => by
    unfold stepB; rw [BitVec.getLsbD_or, hi, Bool.or_true]
  rw [hu] at hle
  have e1 := reg_same hg.2.2.1 hg.2.2.2.1 h (leB_trans (fun i hi => by rw [BitVec.getLsbD_or, hi]; rfl) hle)
  have e2 := reg_same hg.2.2.2.2.1 hg.2.2.2.2.2 h (leB_trans (fun i hi => by rw [BitVec.getLsbD_or, hi, Bool.or_true]) hle)
  have ev := reck_same (op := x.op) (imm := x.imm) h.1 e1 e2
  have hd' : doesB x.op x.rd x.rs1 x.rs2 x.imm = true := hd
  unfold dM doesM
  rw [if_pos hd', if_pos hd', ev]
  obtain ⟨k, hk⟩ := Int.eq_ofNat_of_zero_le hg.1
  refine ⟨by show (zr c).pc + (BitVec.ofNat 32 4) = (zr d).pc + (BitVec.ofNat 32 4); rw [zr_pc, zr_pc, h.1], fun r h1 h2 h3 => ?_⟩
  show (put (zr c) x.rd _).x r = (put (zr d) x.rd _).x r
  unfold put
  by_cases e0 : x.rd = 0
  · rw [if_pos e0, if_pos e0, zr_get, zr_get, if_neg (by omega), if_neg (by omega)]
    refine h.2 r h1 h2 ?_
    rw [step_get _ _ _ h2, h3, hs, e0]
    simp [oneB]
  · rw [if_neg e0, if_neg e0]
    unfold sx
    show (if r = x.rd.toNat then _ else (zr c).x r) = (if r = x.rd.toNat then _ else (zr d).x r)
    by_cases er : r = x.rd.toNat
    · rw [if_pos er, if_pos er]
    · rw [if_neg er, if_neg er, zr_get, zr_get, if_neg (by omega), if_neg (by omega)]
      refine h.2 r h1 h2 ?_
      have hk1 := hg.2.1
      rw [step_get _ _ _ h2, h3, hs, hk, one_get k r (by omega) h2, decide_eq_false (by rw [hk, Int.toNat_natCast] at er; omega)]
      rfl
/-- .. and to any number of them. -/
theorem keeps_start {c d : Mach} {n : BitVec 32} (hpc : c.pc = d.pc) (h : ∀ r, r < 32 → n.getLsbD r = true → c.x r = d.x r) : Agr c d n := ⟨hpc, fun r _ h2 h3 => h r h2 h3⟩
theorem keeps_drop {l : List Ins} {i : Nat} {x : Ins} (n : BitVec 32) (h : l[i]? = some x) : backB (l.drop i) n = stepB x (backB (l.drop (i + 1)) n) := by
  obtain ⟨hi, he⟩ := List.getElem?_eq_some_iff.1 h
  rw [List.drop_eq_getElem_cons hi, he]; rfl
end Lv
end Go.Proofs.YtcffpmicencfpabGreat
