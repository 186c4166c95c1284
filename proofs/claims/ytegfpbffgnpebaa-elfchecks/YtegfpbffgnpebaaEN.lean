/-
  Contracts of package elf's written and Write: a program's file.
-/
import Derived.Test.YtegfpbffgnpebaaEM
namespace Go.Proofs.Ytegfpbffgnpebaa
open Go.RowKit El Go.Lib
open Classical
set_option linter.unusedSimpArgs false

/-- While written is at work: the program's box, the builder. -/
structure WrAt (w : World) (x : Prg) (v : Value) (l : List UInt8) (W : World) : Prop where
  box : W.heap[w.heap.size]? = some (.cells #[.int .u32 (x.entry.toNat : Int), .int .u32 (x.flags.toNat : Int), v] 25 (0, 0))
  bd : Bd (w.heap.size + 1) l W
  low : Below w.heap.size w W
theorem WrAt.step {w W W' : World} {x : Prg} {v : Value} {l l' : List UInt8} (h : WrAt w x v l W) (hB : Bd (w.heap.size + 1) l' W') (hK : Kp (w.heap.size + 1) W W') : WrAt w x v l' W' :=
  ⟨hK.at h.box (by omega) (by decide), hB, h.low.trans (hK.low.mono (by omega))⟩
theorem WrAt.alloc {w W : World} {x : Prg} {v : Value} {l : List UInt8} (h : WrAt w x v l W) (o : Obj) : WrAt w x v l (W.alloc o) :=
  h.step (h.bd.alloc o) ((Kp.refl _ _).alloc (Nat.le_of_lt h.bd.lt) o)
theorem wr_bound {x : Prg} (hc : chk x.segs = 0) (hd : (datas x.segs).length ≤ 1073741824) (k : Nat) : (head x ++ rows (x.segs.take k) (52 + 32 * x.segs.length)).length ≤ 1000 ∧ 52 + 32 * x.segs.length + (datas (x.segs.take k)).length < 4294967296 := by
  have := (chk_zero hc).1
  have h2 := datas_take x.segs k
  refine ⟨?_, by omega⟩
  rw [List.length_append, head_len, rows_len, List.length_take]; omega
set_option maxRecDepth 100000 in
set_option maxHeartbeats 8000000 in
theorem written_any (x : Prg) (v : Value) (hc : chk x.segs = 0) (hd : (datas x.segs).length ≤ 1073741824) (w : World) (hS : SlS w v x.segs) :
    Calls Try.prog 17 #[prgV x v] w fun e w' => e = .returned (.string ⟨(El.wr x).toArray⟩) ∧ Below w.heap.size w w' := by
  obtain ⟨hn, hmay, _⟩ := chk_zero hc
  obtain ⟨p, c, rfl, _⟩ := hS.len
  have HS := hideE hS
  have HM := hideE hmay
  have HC := hideE hc
  obtain ⟨N, hN⟩ : ∃ N, N = x.segs.length := ⟨_, rfl⟩
  have hw1 : IntKind.i64.wrap (32 * (x.segs.length : Int)) = 32 * (x.segs.length : Int) := wrE (by omega) (by omega)
  have hw2 : IntKind.i64.wrap (52 + 32 * (x.segs.length : Int)) = 52 + 32 * (x.segs.length : Int) := wrE (by omega) (by omega)
  have hw3 : IntKind.i64.wrap (52 + 32 * (x.segs.length : Int) + ((datas x.segs).length : Int)) = 52 + 32 * (x.segs.length : Int) + ((datas x.segs).length : Int) := wrE (by omega) (by omega)
  clear hS hmay hc
  unfold prgV
  go_enter Try.func17, Try.ntmps17
  have b0 : Below w.heap.size w ((w.alloc (.cells #[.int .u32 (x.entry.toNat : Int), .int .u32 (x.flags.toNat : Int), .slice p x.segs.length c] 25)).alloc (.cells #[.pointer none, .slice none 0 0] 50)) := ((Below.refl _ w).alloc (Nat.le_refl _) _).alloc (by simp) _
  have hx0 : ((w.alloc (.cells #[.int .u32 (x.entry.toNat : Int), .int .u32 (x.flags.toNat : Int), .slice p x.segs.length c] 25)).alloc (.cells #[.pointer none, .slice none 0 0] 50)).heap[w.heap.size]? = some (.cells #[.int .u32 (x.entry.toNat : Int), .int .u32 (x.flags.toNat : Int), .slice p x.segs.length c] 25 (0, 0)) := by
    rw [Below.heap_alloc _ _ _ (by simp)]; exact heap_alloc_new w _
  have hb0 : ((w.alloc (.cells #[.int .u32 (x.entry.toNat : Int), .int .u32 (x.flags.toNat : Int), .slice p x.segs.length c] 25)).alloc (.cells #[.pointer none, .slice none 0 0] 50)).heap[w.heap.size + 1]? = some (.cells #[.pointer none, .slice none 0 0] 50 (0, 0)) := by
    have := heap_alloc_new (w.alloc (.cells #[.int .u32 (x.entry.toNat : Int), .int .u32 (x.flags.toNat : Int), .slice p x.segs.length c] 25)) (.cells #[.pointer none, .slice none 0 0] 50)
    simpa using this
  have B0 := hideE b0
  have X0 := hideE hx0
  have D0 := hideE hb0
  clear b0 hx0 hb0
  go_wp2_with fail
  refine (bytesOf_any _ x.segs (by omega) (by omega) _ (HS.out.below B0.out)).mono ?_
  rintro e w1 ⟨rfl, hb1⟩
  have hx1 := keptN hb1 X0.out
  have hd1 := keptN hb1 D0.out
  have hl1 := B0.out.trans (hb1.mono (by simp; omega))
  clear hb1 B0 X0 D0
  obtain ⟨M, hM⟩ : ∃ M : Nat, M = 52 + 32 * x.segs.length + (datas x.segs).length := ⟨_, rfl⟩
  have hMi : 52 + 32 * (x.segs.length : Int) + ((datas x.segs).length : Int) = (M : Int) := by omega
  have HG : Hid (∀ i : Int, i = (M : Int) → Calls Try.prog 25 #[.pointer (some ⟨w.heap.size + 1, 0, none⟩), .int .i64 i] w1 fun e w' => e = .returned (.tuple #[]) ∧ Bd (w.heap.size + 1) [] w' ∧ Below (w.heap.size + 1) w1 w') := fun i hi => by
    subst hi; exact growE (w.heap.size + 1) M w1 hd1 (by omega)
  have Hx1 := hideE hx1
  have Hl1 := hideE hl1
  have hMH := hideE hMi
  clear hx1 hl1 hd1 hM hMi
  go_wp2_with fail
  refine (HG.out _ (by first | exact hMH.out | (rw [← hMH.out]))).mono ?_
  rintro e w2 ⟨rfl, hB2, hb2⟩
  have W2 : WrAt w x (.slice p x.segs.length c) [] w2 := ⟨keptE hb2 (by omega) Hx1.out, hB2, Hl1.out.trans (hb2.mono (by omega))⟩
  obtain ⟨⟨a0, a1, a2⟩, _⟩ := three W2.box
  have HW2 := hideE W2
  clear hB2 hb2 W2 HG Hx1 Hl1
  go_wp2_with fail
  refine (putHead_any (w.heap.size + 1) x (.slice p x.segs.length c) hn _ (HS.out.below HW2.out.low) HW2.out.bd).mono ?_
  rintro e w3 ⟨rfl, hB3, hK3⟩
  have W3 := HW2.out.step hB3 hK3
  clear a0 a1 a2 HW2 hB3 hK3
  obtain ⟨⟨a0, a1, a2⟩, _⟩ := three W3.box
  have HW3 := hideE W3
  clear W3
  go_wp2_with fail
  go_loopg [3, 25] x.segs.length (fun q pl i wr => ∃ k : Nat, k + q = x.segs.length ∧ i = .int .i64 (k : Int) ∧ pl = .int .i64 ((52 + 32 * x.segs.length + (datas (x.segs.take k)).length : Nat) : Int) ∧ WrAt w x (.slice p x.segs.length c) (head x ++ rows (x.segs.take k) (52 + 32 * x.segs.length)) wr)
  case atStart => exact ⟨0, by omega, rfl, by simp [datas], by simpa [rows] using HW3.out⟩
  case round =>
    clear a0 a1 a2 HW3
    obtain ⟨k, hkq, rfl, rfl, hW⟩ := hrel
    cases gk with
    | zero =>
      obtain rfl : k = x.segs.length := by omega
      have hk : ¬ ((x.segs.length : Int) < (x.segs.length : Int)) := by omega
      rw [List.take_length] at hW
      obtain ⟨⟨a0, a1, a2⟩, _⟩ := three hW.box
      have HW := hideE hW
      clear hW
      go_wp2_with fail
      go_loopg [41] x.segs.length (fun q i wr => ∃ k : Nat, k + q = x.segs.length ∧ i = .int .i64 (k : Int) ∧ WrAt w x (.slice p x.segs.length c) (head x ++ (rows x.segs (52 + 32 * x.segs.length) ++ datas (x.segs.take k))) wr)
      case atStart => exact ⟨0, by omega, rfl, by simpa [datas] using HW.out⟩
      case round =>
        clear a0 a1 a2 HW hkq hk
        obtain ⟨k, hkq, rfl, hW⟩ := hrel
        cases gk with
        | zero =>
          obtain rfl : k = x.segs.length := by omega
          have hk : ¬ ((x.segs.length : Int) < (x.segs.length : Int)) := by omega
          rw [List.take_length] at hW
          have HW := hideE hW
          clear hW
          go_wp2_with (go_at_call 30; refine (stringE (w.heap.size + 1) _ _ HW.out.bd).mono ?_; rintro e w4 ⟨rfl, hK4⟩)
          go_ret
          exact ⟨rfl, HW.out.low.trans (hK4.low.mono (by omega))⟩
        | succ q =>
          have hk : ((k : Int) < (x.segs.length : Int)) := by omega
          have hk0 : (0 : Int) ≤ (k : Int) := by omega
          have hwk : IntKind.i64.wrap ((k : Int) + 1) = (k : Int) + 1 := wrE (by omega) (by omega)
          obtain ⟨y, hy⟩ : ∃ y, x.segs[k]? = some y := ⟨x.segs[k]'(by omega), List.getElem?_eq_getElem (by omega)⟩
          obtain ⟨g, o, rfl⟩ := sls_some HS.out (by omega)
          obtain ⟨hc, _⟩ := slsCells (HS.out.below hW.low) (by omega)
          obtain ⟨b0, b1, b2, b3⟩ := SlS.at hc k y hy
          have hld : (head x ++ (rows x.segs (52 + 32 * x.segs.length) ++ datas (x.segs.take k))).length + y.data.length ≤ 140737488355328 := by
            have h1 := wr_bound HC.out hd x.segs.length
            rw [List.take_length] at h1
            have h2 := datas_take x.segs (k + 1)
            rw [take_snoc hy, datas_snoc, List.length_append] at h2
            have h3 := h1.1
            rw [List.length_append] at h3
            rw [List.length_append, List.length_append]; omega
          have HW := hideE hW
          have Hy := hideE hy
          clear hW hc hy
          go_wp2_with (go_at_call 29; refine (wstrE (w.heap.size + 1) _ y.data _ (HW.out.alloc _).bd hld).mono ?_; rintro e w4 ⟨rfl, hB4, hK4⟩)
          go_roundg q
          case measure => omega
          case rel =>
            refine ⟨k + 1, by omega, by simp, ?_⟩
            rw [take_snoc Hy.out, datas_snoc, ← List.append_assoc (rows x.segs _), ← List.append_assoc (head x)]
            exact (HW.out.alloc _).step hB4 hK4
    | succ q =>
      have hk : ((k : Int) < (x.segs.length : Int)) := by omega
      have hk0 : (0 : Int) ≤ (k : Int) := by omega
      have hwk : IntKind.i64.wrap ((k : Int) + 1) = (k : Int) + 1 := wrE (by omega) (by omega)
      obtain ⟨y, hy⟩ : ∃ y, x.segs[k]? = some y := ⟨x.segs[k]'(by omega), List.getElem?_eq_getElem (by omega)⟩
      obtain ⟨g, o, rfl⟩ := sls_some HS.out (by omega)
      obtain ⟨hc, _⟩ := slsCells (HS.out.below hW.low) (by omega)
      obtain ⟨b0, b1, b2, b3⟩ := SlS.at hc k y hy
      obtain ⟨hl1, hl2⟩ := wr_bound HC.out hd k
      have hym := HM.out y (List.mem_of_getElem? hy)
      have hsum : (datas (x.segs.take (k + 1))).length = (datas (x.segs.take k)).length + y.data.length := by rw [take_snoc hy, datas_snoc, List.length_append]
      have hle := datas_take x.segs (k + 1)
      obtain ⟨P, hP⟩ : ∃ P : Nat, P = 52 + 32 * x.segs.length + (datas (x.segs.take k)).length := ⟨_, rfl⟩
      have hwp : IntKind.i64.wrap ((P : Int) + (y.data.length : Int)) = (P : Int) + (y.data.length : Int) := wrE (by omega) (by omega)
      have HW := hideE hW
      have Hy := hideE hy
      have Hs := hideE hsum
      rw [← hP]
      rw [← hP] at hl2
      have HP := hideE hP
      have hbox : ∀ W', Kp (w.heap.size + 1) (wr.alloc (.cells #[.int .u32 (y.addr.toNat : Int), .string ⟨y.data.toArray⟩, .int .i64 y.size, .int .i64 y.flags] 36)) W' → W'.cell? ⟨wr.heap.size, 1, none⟩ = some (.string ⟨y.data.toArray⟩) := fun W' hK => (four (hK.at (heap_alloc_new wr _) (by have := HW.out.bd.lt; omega) (by decide))).1.2.1
      have Hbox := hideE hbox
      clear hW hc hy hsum hP hbox
      go_wp2_with (go_at_call 28; refine (putRow_any (w.heap.size + 1) _ y P hym hl2 (by omega) _ (HW.out.alloc _).bd).mono ?_; rintro e w4 ⟨rfl, hB4, hK4⟩; have hc4 := Hbox.out _ hK4)
      go_roundg q
      case measure => omega
      case rel =>
        refine ⟨k + 1, by omega, by simp, ?_, ?_⟩
        · rw [Hs.out, HP.out]; simp; omega
        · rw [take_snoc Hy.out, rows_snoc, ← List.append_assoc (head x), ← HP.out]
          exact (HW.out.alloc _).step hB4 hK4
end Go.Proofs.Ytegfpbffgnpebaa
