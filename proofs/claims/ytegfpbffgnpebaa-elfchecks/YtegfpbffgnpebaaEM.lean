/-
  Contracts of package elf: putHead, putRow, bytesOf, written, Write: a program's file.
-/
import Derived.Test.YtegfpbffgnpebaaEL
import Derived.Test.YtegfpbffgnpebaaEE
namespace Go.Proofs.Ytegfpbffgnpebaa
open Go.RowKit El Go.Lib
open Classical
set_option linter.unusedSimpArgs false

theorem head_eq (x : Prg) : ((((((([] ++ El.mark) ++ zeros 9) ++ El.kind) ++ [x.entry.toNat, 52, 0, x.flags.toNat].flatMap b4) ++ El.sizes) ++ numB 2 x.segs.length) ++ zeros 6) = head x := by
  simp [head, numB_two, List.append_assoc]
theorem row_eq (g : Seg) (P : Nat) : [1, P, g.addr.toNat, g.addr.toNat, g.data.length, g.size.toNat, g.flags.toNat, 4].flatMap b4 = row g P := by
  simp [row]
theorem rows_snoc (l : List Seg) (g : Seg) (p : Nat) : rows (l ++ [g]) p = rows l p ++ row g (p + (datas l).length) := by
  induction l generalizing p with
  | nil => simp [rows, datas]
  | cons a r ih => rw [List.cons_append, rows, ih, rows, datas_cons, List.length_append, List.append_assoc, Nat.add_assoc]
theorem datas_snoc (l : List Seg) (g : Seg) : datas (l ++ [g]) = datas l ++ g.data := by simp [datas]
theorem datas_take (l : List Seg) (k : Nat) : (datas (l.take k)).length ≤ (datas l).length := by
  conv => rhs; rw [← List.take_append_drop k l]
  unfold datas
  rw [List.flatMap_append, List.length_append]; omega
theorem take_snoc {l : List Seg} {k : Nat} {g : Seg} (h : l[k]? = some g) : l.take (k + 1) = l.take k ++ [g] := by rw [List.take_add_one, h]; rfl
theorem sls_some {W : World} {p : Option Addr} {c : Nat} {l : List Seg} (h : SlS W (.slice p l.length c) l) (hl : 0 < l.length) : ∃ g o, p = some ⟨g, o, none⟩ := by
  rcases h with ⟨_, _, _, e⟩ | ⟨g, o, c', e, _⟩
  · subst e; simp at hl
  · injection e with e1; exact ⟨g, o, e1⟩
set_option maxHeartbeats 2000000 in
theorem putHead_any (b : Nat) (x : Prg) (v : Value) (hn : x.segs.length ≤ 16) (w : World) (hS : SlS w v x.segs) (h : Bd b [] w) :
    Calls Try.prog 27 #[.pointer (some ⟨b, 0, none⟩), prgV x v] w fun e w' => e = .returned (.tuple #[]) ∧ Bd b (head x) w' ∧ Kp b w w' := by
  obtain ⟨p, c, rfl, _⟩ := hS.len
  have Hd := hideE (head_eq x)
  have hE := x.entry.isLt
  have hF := x.flags.isLt
  have Hh := hideE h
  have hne : w.heap.size ≠ b := by have := h.lt; omega
  have hle := Nat.le_of_lt h.lt
  have hbx := heap_alloc_new w (.cells #[.int .u32 (x.entry.toNat : Int), .int .u32 (x.flags.toNat : Int), .slice p x.segs.length c] 25)
  have K0 := (Kp.refl b w).alloc hle (.cells #[.int .u32 (x.entry.toNat : Int), .int .u32 (x.flags.toNat : Int), .slice p x.segs.length c] 25)
  have Hx := hideE hbx
  have HK0 := hideE K0
  clear hbx K0 h hS
  unfold prgV
  go_enter Try.func27, Try.ntmps27
  go_wp2_with fail
  refine (wstrE b [] El.mark _ (Hh.out.alloc _) (by simp [El.mark])).mono ?_
  rintro e w1 ⟨rfl, hB1, hK1⟩
  go_wp2_with fail
  refine (putZeros_any b _ 16 (by omega) (by simp [El.mark]) _ hB1).mono ?_
  rintro e w2 ⟨rfl, hB2, hK2⟩
  have e9 : 16 - (([] : List UInt8) ++ El.mark).length = 9 := rfl
  rw [e9] at hB2
  go_wp2_with fail
  refine (wstrE b _ El.kind _ hB2 (by simp [El.mark, El.kind, zeros])).mono ?_
  rintro e w3 ⟨rfl, hB3, hK3⟩
  have K3 := (hK1.trans hK2).trans hK3
  obtain ⟨⟨a0, a1, a2⟩, _⟩ := three (K3.at Hx.out hne (by decide))
  have HB3 := hideE hB3
  have HK3 := hideE (HK0.out.trans K3)
  have hne3 : w3.heap.size ≠ b := by have := hB3.lt; omega
  clear hB1 hB2 hB3 hK1 hK2 hK3
  go_wp2_with fail
  refine (putWords_any b w3.heap.size _ [x.entry.toNat, 52, 0, x.flags.toNat] (by simp; omega) (by simp) (by simp [El.mark, El.kind, zeros]) hne3 4 _ (HB3.out.alloc _) (heap_alloc_new w3 _)).mono ?_
  rintro e w4 ⟨rfl, hB4, hK4⟩
  have K4 : Kp b w w4 := (HK3.out.alloc (Nat.le_of_lt HB3.out.lt) _).trans hK4
  have K4' := (K3.alloc (Nat.le_of_lt HB3.out.lt) _).trans hK4
  clear a0 a1 a2 hK4
  go_wp2_with fail
  refine (wstrE b _ El.sizes _ hB4 (by simp [El.mark, El.kind, zeros, El.sizes, b4])).mono ?_
  rintro e w5 ⟨rfl, hB5, hK5⟩
  obtain ⟨⟨a0, a1, a2⟩, _⟩ := three ((K4'.trans hK5).at Hx.out hne (by decide))
  go_wp2_with fail
  refine (putNumber_any b _ 2 x.segs.length (by omega) (by omega) (by simp [El.mark, El.kind, zeros, El.sizes, b4]) _ hB5).mono ?_
  rintro e w6 ⟨rfl, hB6, hK6⟩
  clear a0 a1 a2
  go_wp2_with fail
  refine (putZeros_any b _ 52 (by omega) (by simp [El.mark, El.kind, zeros, El.sizes, b4, numB]) _ hB6).mono ?_
  rintro e w7 ⟨rfl, hB7, hK7⟩
  rw [show 52 - (([] : List UInt8) ++ El.mark ++ zeros 9 ++ El.kind ++ List.flatMap b4 [x.entry.toNat, 52, 0, x.flags.toNat] ++ El.sizes ++ numB 2 x.segs.length).length = 6 by simp [El.mark, El.kind, zeros, El.sizes, b4, numB], Hd.out] at hB7
  go_wp2_with fail
  go_end0
  exact ⟨rfl, hB7, ((K4.trans hK5).trans hK6).trans hK7⟩
set_option maxHeartbeats 2000000 in
theorem putRow_any (b : Nat) (l : List UInt8) (g : Seg) (P : Nat) (hm : g.may) (hP : P < 4294967296) (hlen : l.length ≤ 35184372088832) (w : World) (h : Bd b l w) :
    Calls Try.prog 28 #[.pointer (some ⟨b, 0, none⟩), segV g, .int .i64 (P : Int)] w fun e w' => e = .returned (.tuple #[]) ∧ Bd b (l ++ row g P) w' ∧ Kp b w w' := by
  have Hr := hideE (row_eq g P)
  obtain ⟨m1, m2, m3, m4, m5, m6⟩ := hm
  have ha := g.addr.isLt
  have hne : w.heap.size + 1 ≠ b := by have := h.lt; omega
  have hle := Nat.le_of_lt h.lt
  have hd : (g.data.length : Int) < 4294967296 := by omega
  have Hh := hideE h
  clear h
  cases g with
  | mk a d n f =>
  simp only at m1 m2 m3 m4 m5 m6 Hr ha hd
  obtain ⟨N, rfl⟩ := Int.eq_ofNat_of_zero_le (by omega : 0 ≤ n)
  obtain ⟨Fl, rfl⟩ := Int.eq_ofNat_of_zero_le m4
  simp only [Int.toNat_natCast] at Hr
  unfold segV
  go_enter Try.func28, Try.ntmps28
  go_wp2_with fail
  refine (putWords_any b (w.heap.size + 1) _ [1, P, a.toNat, a.toNat, d.length, N, Fl, 4] (by simp; omega) (by simp) hlen hne 8 _ ((Hh.out.alloc _).alloc _) (by have := heap_alloc_new (w.alloc (.cells #[.int .u32 (a.toNat : Int), .string ⟨d.toArray⟩, .int .i64 (N : Int), .int .i64 (Fl : Int)] 36)) (.cells (wordVs [1, P, a.toNat, a.toNat, d.length, N, Fl, 4]) 22); simpa [wordVs] using this)).mono ?_
  rintro e w1 ⟨rfl, hB1, hK1⟩
  rw [Hr.out] at hB1
  go_wp2_with fail
  go_end0
  exact ⟨rfl, hB1, ((((Kp.refl b w).alloc hle _).alloc (by simp; omega) _).trans hK1)⟩
set_option maxHeartbeats 2000000 in
theorem bytesOf_any (v : Value) (l : List Seg) (hl : l.length ≤ 1000) (hd : (datas l).length ≤ 1099511627776) (w : World) (hS : SlS w v l) :
    Calls Try.prog 26 #[v] w fun e w' => e = .returned (.int .i64 ((datas l).length : Int)) ∧ Below w.heap.size w w' := by
  obtain ⟨p, c, rfl, _⟩ := hS.len
  have HS := hideE hS
  clear hS
  go_enter Try.func26, Try.ntmps26
  go_wp2_with fail
  go_loopg [3, 8] l.length (fun q n i wr => ∃ k : Nat, k + q = l.length ∧ i = .int .i64 (k : Int) ∧ n = .int .i64 ((datas (l.take k)).length : Int) ∧ Below w.heap.size w wr)
  case atStart => exact ⟨0, by omega, rfl, rfl, Below.refl _ _⟩
  case round =>
    obtain ⟨k, hkq, rfl, rfl, hb⟩ := hrel
    have HB := hideE hb
    cases gk with
    | zero =>
      obtain rfl : k = l.length := by omega
      have hk : ¬ ((l.length : Int) < (l.length : Int)) := by omega
      clear hb
      go_wp2_with fail
      go_ret
      exact ⟨rfl, HB.out⟩
    | succ q =>
      have hk : ((k : Int) < (l.length : Int)) := by omega
      have hk0 : (0 : Int) ≤ (k : Int) := by omega
      have hwk : IntKind.i64.wrap ((k : Int) + 1) = (k : Int) + 1 := wrE (by omega) (by omega)
      obtain ⟨x, hx⟩ : ∃ x, l[k]? = some x := ⟨l[k]'(by omega), List.getElem?_eq_getElem (by omega)⟩
      obtain ⟨g, o, rfl⟩ := sls_some HS.out (by omega)
      obtain ⟨hc, _⟩ := slsCells (HS.out.below hb) (by omega)
      obtain ⟨b0, b1, b2, b3⟩ := SlS.at hc k x hx
      have hsum : (datas (l.take (k + 1))).length = (datas (l.take k)).length + x.data.length := by rw [take_snoc hx, datas_snoc, List.length_append]
      have hle := datas_take l (k + 1)
      have Hs := hideE hsum
      have hw2 : IntKind.i64.wrap (((datas (l.take k)).length : Int) + (x.data.length : Int)) = ((datas (l.take k)).length : Int) + (x.data.length : Int) := wrE (by omega) (by omega)
      clear hb hx hc hsum
      go_wp2_with fail
      go_roundg q
      case measure => omega
      case rel => exact ⟨k + 1, by omega, by simp, by rw [Hs.out]; simp, HB.out.alloc HB.out.size _⟩
end Go.Proofs.Ytegfpbffgnpebaa
