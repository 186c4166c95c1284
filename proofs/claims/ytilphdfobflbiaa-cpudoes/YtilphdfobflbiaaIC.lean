/-
  The word of an instruction of each form, as a number. No program in sight.
-/
import Derived.Test.YtilphdfobflbiaaIB
namespace Go.Proofs.Ytilphdfobflbiaa
open Go.RowKit
namespace Ip

theorem stem_nat (f o a b : Nat) (hf : f ≠ 69) (ho : o < 128) (ha : a < 8) (hb : b < 128) : (stemW f o a b).toNat = o + 4096 * a + 33554432 * b := by
  have e0 : (BitVec.ofNat 32 o).toNat = o := by rw [BitVec.toNat_ofNat]; omega
  have ea : (BitVec.ofNat 32 a).toNat = a := by rw [BitVec.toNat_ofNat]; omega
  have eb : (BitVec.ofNat 32 b).toNat = b := by rw [BitVec.toNat_ofNat]; omega
  have p1 := put_add (BitVec.ofNat 32 o) (BitVec.ofNat 32 a) 12 3 12 3 rfl rfl (by omega) (by omega) (by rw [e0]; omega)
  have p2 := put_add (Wd.put (BitVec.ofNat 32 o) 12 3 (BitVec.ofNat 32 a)) (BitVec.ofNat 32 b) 25 7 25 7 rfl rfl (by omega) (by omega) (by rw [p1, e0, ea]; omega)
  unfold stemW high; rw [if_neg hf]
  show (Wd.put _ 25 7 _).toNat = _
  rw [p2, p1, e0, ea, eb]; omega
theorem stem_nat_E (a b : Nat) (ha : a < 8) (hb : b < 4096) : (stemW 69 115 a b).toNat = 115 + 4096 * a + 1048576 * b := by
  have e0 : (BitVec.ofNat 32 115).toNat = 115 := by rw [BitVec.toNat_ofNat]
  have ea : (BitVec.ofNat 32 a).toNat = a := by rw [BitVec.toNat_ofNat]; omega
  have eb : (BitVec.ofNat 32 b).toNat = b := by rw [BitVec.toNat_ofNat]; omega
  have p1 := put_add (BitVec.ofNat 32 115) (BitVec.ofNat 32 a) 12 3 12 3 rfl rfl (by omega) (by omega) (by rw [e0])
  have p2 := put_add (Wd.put (BitVec.ofNat 32 115) 12 3 (BitVec.ofNat 32 a)) (BitVec.ofNat 32 b) 20 12 20 12 rfl rfl (by omega) (by omega) (by rw [p1, e0, ea]; omega)
  unfold stemW high; rw [if_pos rfl]
  show (Wd.put _ 20 12 _).toNat = _
  rw [p2, p1, e0, ea, eb]; omega
theorem word_U (t c0 r1 : BitVec 32) (o : Nat) (ho : o < 128) (hs : t.toNat = o) :
    (Wd.put (Wd.put t 12 20 c0) 7 5 r1).toNat = t.toNat + 2 ^ 12 * (c0.toNat % 2 ^ 20) + 2 ^ 7 * (r1.toNat % 2 ^ 5) := by
  have p0 := put_add t c0 12 20 12 20 rfl rfl (by omega) (by omega) (by rw [hs]; omega)
  have p1 := put_add (Wd.put t 12 20 c0) r1 7 5 7 5 rfl rfl (by omega) (by omega) (by rw [put_apart _ _ 12 20 12 20 7 5 rfl rfl (by omega) (by omega) (by omega), hs]; omega)
  rw [p1, p0]
theorem word_J (t c0 c1 c2 c3 r1 : BitVec 32) (o : Nat) (ho : o < 128) (hs : t.toNat = o) :
    (Wd.put (Wd.put (Wd.put (Wd.put (Wd.put t 31 1 c0) 12 8 c1) 20 1 c2) 21 10 c3) 7 5 r1).toNat = t.toNat + 2 ^ 31 * (c0.toNat % 2 ^ 1) + 2 ^ 12 * (c1.toNat % 2 ^ 8) + 2 ^ 20 * (c2.toNat % 2 ^ 1) + 2 ^ 21 * (c3.toNat % 2 ^ 10) + 2 ^ 7 * (r1.toNat % 2 ^ 5) := by
  have p0 := put_add t c0 31 1 31 1 rfl rfl (by omega) (by omega) (by rw [hs]; omega)
  have p1 := put_add (Wd.put t 31 1 c0) c1 12 8 12 8 rfl rfl (by omega) (by omega) (by rw [put_apart _ _ 31 1 31 1 12 8 rfl rfl (by omega) (by omega) (by omega), hs]; omega)
  have p2 := put_add (Wd.put (Wd.put t 31 1 c0) 12 8 c1) c2 20 1 20 1 rfl rfl (by omega) (by omega) (by rw [put_apart _ _ 12 8 12 8 20 1 rfl rfl (by omega) (by omega) (by omega), put_apart _ _ 31 1 31 1 20 1 rfl rfl (by omega) (by omega) (by omega), hs]; omega)
  have p3 := put_add (Wd.put (Wd.put (Wd.put t 31 1 c0) 12 8 c1) 20 1 c2) c3 21 10 21 10 rfl rfl (by omega) (by omega) (by rw [put_apart _ _ 20 1 20 1 21 10 rfl rfl (by omega) (by omega) (by omega), put_apart _ _ 12 8 12 8 21 10 rfl rfl (by omega) (by omega) (by omega), put_apart _ _ 31 1 31 1 21 10 rfl rfl (by omega) (by omega) (by omega), hs]; omega)
  have p4 := put_add (Wd.put (Wd.put (Wd.put (Wd.put t 31 1 c0) 12 8 c1) 20 1 c2) 21 10 c3) r1 7 5 7 5 rfl rfl (by omega) (by omega) (by rw [put_apart _ _ 21 10 21 10 7 5 rfl rfl (by omega) (by omega) (by omega), put_apart _ _ 20 1 20 1 7 5 rfl rfl (by omega) (by omega) (by omega), put_apart _ _ 12 8 12 8 7 5 rfl rfl (by omega) (by omega) (by omega), put_apart _ _ 31 1 31 1 7 5 rfl rfl (by omega) (by omega) (by omega), hs]; omega)
  rw [p4, p3, p2, p1, p0]
theorem word_I (t c0 r1 r2 : BitVec 32) (o a : Nat) (ho : o < 128) (hs : t.toNat = o + 4096 * a) (ha : a < 8) :
    (Wd.put (Wd.put (Wd.put t 20 12 c0) 7 5 r1) 15 5 r2).toNat = t.toNat + 2 ^ 20 * (c0.toNat % 2 ^ 12) + 2 ^ 7 * (r1.toNat % 2 ^ 5) + 2 ^ 15 * (r2.toNat % 2 ^ 5) := by
  have p0 := put_add t c0 20 12 20 12 rfl rfl (by omega) (by omega) (by rw [hs]; omega)
  have p1 := put_add (Wd.put t 20 12 c0) r1 7 5 7 5 rfl rfl (by omega) (by omega) (by rw [put_apart _ _ 20 12 20 12 7 5 rfl rfl (by omega) (by omega) (by omega), hs]; omega)
  have p2 := put_add (Wd.put (Wd.put t 20 12 c0) 7 5 r1) r2 15 5 15 5 rfl rfl (by omega) (by omega) (by rw [put_apart _ _ 7 5 7 5 15 5 rfl rfl (by omega) (by omega) (by omega), put_apart _ _ 20 12 20 12 15 5 rfl rfl (by omega) (by omega) (by omega), hs]; omega)
  rw [p2, p1, p0]
theorem word_H (t c0 r1 r2 : BitVec 32) (o a b : Nat) (ho : o < 128) (hs : t.toNat = o + 4096 * a + 33554432 * b) (ha : a < 8) :
    (Wd.put (Wd.put (Wd.put t 20 5 c0) 7 5 r1) 15 5 r2).toNat = t.toNat + 2 ^ 20 * (c0.toNat % 2 ^ 5) + 2 ^ 7 * (r1.toNat % 2 ^ 5) + 2 ^ 15 * (r2.toNat % 2 ^ 5) := by
  have p0 := put_add t c0 20 5 20 5 rfl rfl (by omega) (by omega) (by rw [hs]; omega)
  have p1 := put_add (Wd.put t 20 5 c0) r1 7 5 7 5 rfl rfl (by omega) (by omega) (by rw [put_apart _ _ 20 5 20 5 7 5 rfl rfl (by omega) (by omega) (by omega), hs]; omega)
  have p2 := put_add (Wd.put (Wd.put t 20 5 c0) 7 5 r1) r2 15 5 15 5 rfl rfl (by omega) (by omega) (by rw [put_apart _ _ 7 5 7 5 15 5 rfl rfl (by omega) (by omega) (by omega), put_apart _ _ 20 5 20 5 15 5 rfl rfl (by omega) (by omega) (by omega), hs]; omega)
  rw [p2, p1, p0]
theorem word_B (t c0 c1 c2 c3 r2 r3 : BitVec 32) (o a : Nat) (ho : o < 128) (hs : t.toNat = o + 4096 * a) (ha : a < 8) :
    (Wd.put (Wd.put (Wd.put (Wd.put (Wd.put (Wd.put t 31 1 c0) 7 1 c1) 25 6 c2) 8 4 c3) 15 5 r2) 20 5 r3).toNat = t.toNat + 2 ^ 31 * (c0.toNat % 2 ^ 1) + 2 ^ 7 * (c1.toNat % 2 ^ 1) + 2 ^ 25 * (c2.toNat % 2 ^ 6) + 2 ^ 8 * (c3.toNat % 2 ^ 4) + 2 ^ 15 * (r2.toNat % 2 ^ 5) + 2 ^ 20 * (r3.toNat % 2 ^ 5) := by
  have p0 := put_add t c0 31 1 31 1 rfl rfl (by omega) (by omega) (by rw [hs]; omega)
  have p1 := put_add (Wd.put t 31 1 c0) c1 7 1 7 1 rfl rfl (by omega) (by omega) (by rw [put_apart _ _ 31 1 31 1 7 1 rfl rfl (by omega) (by omega) (by omega), hs]; omega)
  have p2 := put_add (Wd.put (Wd.put t 31 1 c0) 7 1 c1) c2 25 6 25 6 rfl rfl (by omega) (by omega) (by rw [put_apart _ _ 7 1 7 1 25 6 rfl rfl (by omega) (by omega) (by omega), put_apart _ _ 31 1 31 1 25 6 rfl rfl (by omega) (by omega) (by omega), hs]; omega)
  have p3 := put_add (Wd.put (Wd.put (Wd.put t 31 1 c0) 7 1 c1) 25 6 c2) c3 8 4 8 4 rfl rfl (by omega) (by omega) (by rw [put_apart _ _ 25 6 25 6 8 4 rfl rfl (by omega) (by omega) (by omega), put_apart _ _ 7 1 7 1 8 4 rfl rfl (by omega) (by omega) (by omega), put_apart _ _ 31 1 31 1 8 4 rfl rfl (by omega) (by omega) (by omega), hs]; omega)
  have p4 := put_add (Wd.put (Wd.put (Wd.put (Wd.put t 31 1 c0) 7 1 c1) 25 6 c2) 8 4 c3) r2 15 5 15 5 rfl rfl (by omega) (by omega) (by rw [put_apart _ _ 8 4 8 4 15 5 rfl rfl (by omega) (by omega) (by omega), put_apart _ _ 25 6 25 6 15 5 rfl rfl (by omega) (by omega) (by omega), put_apart _ _ 7 1 7 1 15 5 rfl rfl (by omega) (by omega) (by omega), put_apart _ _ 31 1 31 1 15 5 rfl rfl (by omega) (by omega) (by omega), hs]; omega)
  have p5 := put_add (Wd.put (Wd.put (Wd.put (Wd.put (Wd.put t 31 1 c0) 7 1 c1) 25 6 c2) 8 4 c3) 15 5 r2) r3 20 5 20 5 rfl rfl (by omega) (by omega) (by rw [put_apart _ _ 15 5 15 5 20 5 rfl rfl (by omega) (by omega) (by omega), put_apart _ _ 8 4 8 4 20 5 rfl rfl (by omega) (by omega) (by omega), put_apart _ _ 25 6 25 6 20 5 rfl rfl (by omega) (by omega) (by omega), put_apart _ _ 7 1 7 1 20 5 rfl rfl (by omega) (by omega) (by omega), put_apart _ _ 31 1 31 1 20 5 rfl rfl (by omega) (by omega) (by omega), hs]; omega)
  rw [p5, p4, p3, p2, p1, p0]
theorem word_S (t c0 c1 r2 r3 : BitVec 32) (o a : Nat) (ho : o < 128) (hs : t.toNat = o + 4096 * a) (ha : a < 8) :
    (Wd.put (Wd.put (Wd.put (Wd.put t 7 5 c0) 25 7 c1) 15 5 r2) 20 5 r3).toNat = t.toNat + 2 ^ 7 * (c0.toNat % 2 ^ 5) + 2 ^ 25 * (c1.toNat % 2 ^ 7) + 2 ^ 15 * (r2.toNat % 2 ^ 5) + 2 ^ 20 * (r3.toNat % 2 ^ 5) := by
  have p0 := put_add t c0 7 5 7 5 rfl rfl (by omega) (by omega) (by rw [hs]; omega)
  have p1 := put_add (Wd.put t 7 5 c0) c1 25 7 25 7 rfl rfl (by omega) (by omega) (by rw [put_apart _ _ 7 5 7 5 25 7 rfl rfl (by omega) (by omega) (by omega), hs]; omega)
  have p2 := put_add (Wd.put (Wd.put t 7 5 c0) 25 7 c1) r2 15 5 15 5 rfl rfl (by omega) (by omega) (by rw [put_apart _ _ 25 7 25 7 15 5 rfl rfl (by omega) (by omega) (by omega), put_apart _ _ 7 5 7 5 15 5 rfl rfl (by omega) (by omega) (by omega), hs]; omega)
  have p3 := put_add (Wd.put (Wd.put (Wd.put t 7 5 c0) 25 7 c1) 15 5 r2) r3 20 5 20 5 rfl rfl (by omega) (by omega) (by rw [put_apart _ _ 15 5 15 5 20 5 rfl rfl (by omega) (by omega) (by omega), put_apart _ _ 25 7 25 7 20 5 rfl rfl (by omega) (by omega) (by omega), put_apart _ _ 7 5 7 5 20 5 rfl rfl (by omega) (by omega) (by omega), hs]; omega)
  rw [p3, p2, p1, p0]
theorem word_R (t r1 r2 r3 : BitVec 32) (o a b : Nat) (ho : o < 128) (hs : t.toNat = o + 4096 * a + 33554432 * b) (ha : a < 8) :
    (Wd.put (Wd.put (Wd.put t 7 5 r1) 15 5 r2) 20 5 r3).toNat = t.toNat + 2 ^ 7 * (r1.toNat % 2 ^ 5) + 2 ^ 15 * (r2.toNat % 2 ^ 5) + 2 ^ 20 * (r3.toNat % 2 ^ 5) := by
  have p0 := put_add t r1 7 5 7 5 rfl rfl (by omega) (by omega) (by rw [hs]; omega)
  have p1 := put_add (Wd.put t 7 5 r1) r2 15 5 15 5 rfl rfl (by omega) (by omega) (by rw [put_apart _ _ 7 5 7 5 15 5 rfl rfl (by omega) (by omega) (by omega), hs]; omega)
  have p2 := put_add (Wd.put (Wd.put t 7 5 r1) 15 5 r2) r3 20 5 20 5 rfl rfl (by omega) (by omega) (by rw [put_apart _ _ 15 5 15 5 20 5 rfl rfl (by omega) (by omega) (by omega), put_apart _ _ 7 5 7 5 20 5 rfl rfl (by omega) (by omega) (by omega), hs]; omega)
  rw [p2, p1, p0]
end Ip
end Go.Proofs.Ytilphdfobflbiaa
