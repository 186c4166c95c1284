/-
  What does not count makes no difference to a plain instruction. No program in sight.
  Contract of the law's agree: two machines that agree as far as registers count.
-/
import Derived.Deep.QuietTactic
import Derived.BigQuiet
import Derived.Test.YtcffpmicencfpaaZY1
import Derived.Test.YtcffpmicencfpaaZY3
import Derived.Test.YtcffpmicencfpaaZk
set_option linter.unusedVariables false
namespace Go.Proofs.Ytcffpmicencfpaa
namespace Lv
open Bl Ip Cp

/-- Two machines have the same registers that count, and the same place. -/
def Agr (c d : Mach) (n : BitVec 32) : Prop := c.pc = d.pc ∧ ∀ r, 1 ≤ r → r < 32 → n.getLsbD r = true → c.x r = d.x r
theorem Agr.less {c d : Mach} {n m : BitVec 32} (h : Agr c d n) (hm : leB m n) : Agr c d m := ⟨h.1, fun r h1 h2 h3 => h.2 r h1 h2 (hm r h3)⟩
theorem one_get (r i : Nat) (hr : r < 32) (hi : i < 32) : (oneB (r : Int)).getLsbD i = (decide (r = i) && decide (i ≠ 0)) := by
  have h : ∀ r : Nat, r < 32 → ∀ i : Nat, i < 32 → (oneB (r : Int)).getLsbD i = (decide (r = i) && decide (i ≠ 0)) := by decide +kernel
  exact h r hr i hi
theorem zr_get (c : Mach) (i : Nat) : (zr c).x i = if i = 0 then (BitVec.ofNat 32 0) else c.x i := rfl
theorem zr_pc (c : Mach) : (zr c).pc = c.pc := rfl
/-- What a plain instruction reckons hangs on what it needs alone. -/
theorem reck_same {c d : Mach} {op rs1 rs2 imm : Int} (hpc : c.pc = d.pc) (h1 : (zr c).x rs1.toNat = (zr d).x rs1.toNat) (h2 : (zr c).x rs2.toNat = (zr d).x rs2.toNat) : reckV (zr c) op rs1 rs2 imm = reckV (zr d) op rs1 rs2 imm := by
  unfold reckV
  rw [h1, h2, zr_pc, zr_pc, hpc]
def dM (c : Mach) (x : Ins) : Mach := doesM c x.op x.rd x.rs1 x.rs2 x.imm
def dB (x : Ins) : Bool := doesB x.op x.rd x.rs1 x.rs2 x.imm
theorem plain_uses {x : Ins} (h : dB x = true) : rightI x = true ∧ usesB x = oneB x.rs1 ||| oneB x.rs2 ∧ setsB x = oneB x.rd := by
  unfold dB doesB at h
  rw [Bool.and_eq_true] at h
  have hr : rightI x = true := h.1
  have hp := of_decide_eq_true h.2
  refine ⟨hr, ?_, ?_⟩
  · unfold usesB
    rw [if_neg (by rw [hr]; intro e; rcases e with e | e | e
                   · cases e
                   · omega
                   · omega), if_neg (by omega)]
  · unfold setsB
    rw [if_neg (by rw [hr]; simp), if_neg (by omega)]
theorem reg_same {c d : Mach} {r : Int} (h0 : 0 ≤ r) (h1 : r < 32) {n : BitVec 32} (h : Agr c d n) (hn : leB (oneB r) n) : (zr c).x r.toNat = (zr d).x r.toNat := by
  obtain ⟨k, rfl⟩ := Int.eq_ofNat_of_zero_le h0
  rw [Int.toNat_natCast, zr_get, zr_get]
  by_cases e : k = 0
  · rw [if_pos e, if_pos e]
  · rw [if_neg e, if_neg e]
    refine h.2 k (by omega) (by omega) (hn k ?_)
    rw [one_get k k (by omega) (by omega)]; simp [e]
theorem keeps_one {c d : Mach} {x : Ins} {n : BitVec 32} (hd : dB x = true) (h : Agr c d (stepB x n)) : Agr (dM c x) (dM d x) n := by
  obtain ⟨hr, hu, hs⟩ := plain_uses hd
  have hg := right_regs hr
  have hle : leB (usesB x) (stepB x n) := fun i hi => by
    unfold stepB; rw [BitVec.getLsbD_or, hi, Bool.or_true]
  rw [hu] at hle
  have e1 := reg_same hg.2.2.1 hg.2.2.2.1 h (leB_trans (fun i hi => by rw [BitVec.getLsbD_or, hi]; rfl) hle)
  have e2 := reg_same hg.2.2.2.2.1 hg.2.2.2.2.2 h (leB_trans (fun i hi => by rw [BitVec.getLsbD_or, hi, Bool.or_true]) hle)
  have ev := reck_same (op := x.op) (imm := x.imm) h.1 e1 e2
  have hd' : doesB x.op x.rd x.rs1 x.rs2 x.imm = true := hd
  unfold dM doesM
  rw [if_pos hd', if_pos hd', ev]
  obtain ⟨k, hk⟩ := Int.eq_ofNat_of_zero_le hg.1
  refine ⟨by show (zr c).pc + (BitVec.ofNat 32 4) = (zr d).pc + (BitVec.ofNat 32 4); rw [zr_pc, zr_pc, h.1], fun r h1 h2 h3 => ?_⟩
  show (put (zr c) x.rd _).x r = (put (zr d) x.rd _).x r
  unfold put
  by_cases e0 : x.rd = 0
  · rw [if_pos e0, if_pos e0, zr_get, zr_get, if_neg (by omega), if_neg (by omega)]
    refine h.2 r h1 h2 ?_
    rw [step_get _ _ _ h2, h3, hs, e0]
    simp [oneB]
  · rw [if_neg e0, if_neg e0]
    unfold sx
    show (if r = x.rd.toNat then _ else (zr c).x r) = (if r = x.rd.toNat then _ else (zr d).x r)
    by_cases er : r = x.rd.toNat
    · rw [if_pos er, if_pos er]
    · rw [if_neg er, if_neg er, zr_get, zr_get, if_neg (by omega), if_neg (by omega)]
      refine h.2 r h1 h2 ?_
      have hk1 := hg.2.1
      rw [step_get _ _ _ h2, h3, hs, hk, one_get k r (by omega) h2, decide_eq_false (by rw [hk, Int.toNat_natCast] at er; omega)]
      rfl
/-- .. and to any number of them. -/
theorem keeps_start {c d : Mach} {n : BitVec 32} (hpc : c.pc = d.pc) (h : ∀ r, r < 32 → n.getLsbD r = true → c.x r = d.x r) : Agr c d n := ⟨hpc, fun r _ h2 h3 => h r h2 h3⟩
theorem keeps_drop {l : List Ins} {i : Nat} {x : Ins} (n : BitVec 32) (h : l[i]? = some x) : backB (l.drop i) n = stepB x (backB (l.drop (i + 1)) n) := by
  obtain ⟨hi, he⟩ := List.getElem?_eq_some_iff.1 h
  rw [List.drop_eq_getElem_cons hi, he]; rfl
end Lv
end Go.Proofs.Ytcffpmicencfpaa
namespace Go.Proofs.Ytcffpmicencfpaa
open Go.RowKit Go.Lib Go.Sort Ip Bl Lv Cp
set_option linter.unusedSimpArgs false
set_option linter.unusedVariables false

theorem bit_of (n : BitVec 32) (r : Nat) : n.toNat / 2 ^ r % 2 = if n.getLsbD r = true then 1 else 0 := by
  have h : n.getLsbD r = n.toNat.testBit r := rfl
  rw [h, Nat.testBit_eq_decide_div_mod_eq]
  by_cases e : n.toNat / 2 ^ r % 2 = 1
  · rw [if_pos (decide_eq_true e), e]
  · rw [if_neg (by simpa using e)]; omega
/-- A register's bit, as a program asks it. -/
theorem bit_ask (n : BitVec 32) (r : Nat) : ∃ Y : BitVec 32, (n.toNat : Int) / 2 ^ r = (Y.toNat : Int) ∧ bits .and .u32 (Y.toNat : Int) 1 = if n.getLsbD r = true then 1 else 0 := by
  refine ⟨n >>> r, Wd.shr_ n r, ?_⟩
  have h := Wd.and_ (n >>> r) (BitVec.ofNat 32 1)
  have h2 : ((n >>> r) &&& (BitVec.ofNat 32 1)).toNat = n.toNat / 2 ^ r % 2 := by rw [low_mod, BitVec.toNat_ushiftRight, Nat.shiftRight_eq_div_pow]
  rw [h2, bit_of] at h
  rw [show (((BitVec.ofNat 32 1)).toNat : Int) = 1 from rfl] at h
  rw [h]
  split <;> rfl
/-- While agree is at work: both machines' boxes. -/
structure Ag (w : World) (c d : Mach) (W : World) : Prop where
  bc : W.heap[w.heap.size]? = some (.cells (cells c) 32 (0, 0))
  bd : W.heap[w.heap.size + 1]? = some (.cells (cells d) 32 (0, 0))
  low : Below w.heap.size w W
theorem Ag.ext {w W W' : World} {c d : Mach} (h : Ag w c d W) (hb : Below W.heap.size W W') : Ag w c d W' := ⟨keptN hb h.bc, keptN hb h.bd, h.low.trans (hb.mono h.low.size)⟩
theorem Ag.new (w : World) (c d : Mach) : Ag w c d ((w.alloc (.cells (cells c) 32)).alloc (.cells (cells d) 32)) := by
  have h1 := heap_alloc_new w (.cells (cells c) 32)
  have h2 := heap_alloc_new (w.alloc (.cells (cells c) 32)) (.cells (cells d) 32)
  rw [World.size_alloc] at h2
  exact ⟨keptN ((Below.refl _ _).alloc (Nat.le_refl _) _) h1, h2, ((Below.refl _ w).alloc (Nat.le_refl _) _).alloc (by simp) _⟩
set_option maxHeartbeats 1000000 in
set_option maxRecDepth 100000 in
theorem agree_any (c d : Mach) (n : BitVec 32) (h : Agr c d n) (w : World) : Calls Try.prog 15 #[.agg (cells c), .agg (cells d), .int .u32 (n.toNat : Int)] w fun e w' => e = .returned (.bool true) ∧ Below w.heap.size w w' := by
  have h0 := Ag.new w c d
  have HAG := hideE h
  go_enter Try.func15, Try.ntmps15
  go_upto_region 2 with fail
  refine gen_world (Ag w c d) h0 ?_
  clear h0
  intro wa h1
  go_loopg [7] 31 (fun q j W => ∃ r : Nat, r + q = 32 ∧ 1 ≤ r ∧ j = .int .i64 (r : Int) ∧ Ag w c d W)
  case atStart => exact ⟨1, by omega, by omega, rfl, h1⟩
  case round =>
    clear h1
    obtain ⟨r, hrq, hr1, rfl, h2⟩ := hrel
    cases gk with
    | zero =>
      obtain rfl : r = 32 := by omega
      have e1 : wr.cell? ⟨w.heap.size, 32, none⟩ = some (.int .u32 (c.pc.toNat : Int)) := Box.at (t := 32) h2.bc
      have e2 : wr.cell? ⟨w.heap.size + 1, 32, none⟩ = some (.int .u32 (c.pc.toNat : Int)) := by rw [h.1]; exact Box.at (t := 32) h2.bd
      have hlow := h2.low
      clear h2 h
      go_wp2_with fail
      go_ret
      exact ⟨rfl, hlow⟩
    | succ q =>
      have hr : (r : Int) < 32 := by omega
      have hr0 : (0 : Int) ≤ (r : Int) := by omega
      have hwr : IntKind.i64.wrap ((r : Int) + 1) = (r : Int) + 1 := wrE (by omega) (by omega)
      have e1 : wr.cell? ⟨w.heap.size, r, none⟩ = some (.int .u32 ((c.x r).toNat : Int)) := Box.reg (t := 32) h2.bc r (by omega)
      have e2 : wr.cell? ⟨w.heap.size + 1, r, none⟩ = some (.int .u32 ((d.x r).toNat : Int)) := Box.reg (t := 32) h2.bd r (by omega)
      have H2 := hideE h2
      obtain ⟨Y, hY, hA⟩ := bit_ask n r
      by_cases hb : n.getLsbD r = true
      · rw [if_pos hb] at hA
        rw [← h.2 r hr1 (by omega) hb] at e2
        clear h2 h hb
        go_wp2_with fail
        go_quiet (fail)
        go_wp2_with fail
        go_roundg q
        case measure => omega
        case rel => exact ⟨r + 1, by omega, by omega, by simp, H2.out.ext (drew_low _ _ _)⟩
      · rw [if_neg hb] at hA
        clear h2 h hb
        go_wp2_with fail
        go_quiet (fail)
        go_wp2_with fail
        go_roundg q
        case measure => omega
        case rel => exact ⟨r + 1, by omega, by omega, by simp, H2.out.ext (drew_low _ _ _)⟩
end Go.Proofs.Ytcffpmicencfpaa
