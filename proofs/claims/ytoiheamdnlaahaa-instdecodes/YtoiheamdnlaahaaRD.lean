/-
  Contract of the document's Decode; the walk of InstDecodes: it answers true of any word.
-/
import Derived.Test.YtoiheamdnlaahaaRZ
import Derived.Test.YtoiheamdnlaahaaRG
import Derived.Test.YtoiheamdnlaahaaIY
namespace Go.Proofs.Ytoiheamdnlaahaa
open Go.RowKit Ip

theorem refN_all (x : BitVec 32) (f : Nat) (h : is8 f) : refN x f (pln f) = number x f := by
  rcases h with rfl | rfl | rfl | rfl | rfl | rfl | rfl | rfl
  · exact refN_U x
  · exact refN_J x
  · exact refN_I x
  · exact refN_H x
  · exact refN_B x
  · exact refN_S x
  · exact (num_none x 82 (by decide)).symm
  · exact (num_none x 69 (by decide)).symm
theorem rtry_to (k : Nat) (hk : k < 47) (x : BitVec 32) (a b c n : Int) (ha : a = regIf (hRd (kf k)) x 7) (hb : b = regIf (hRs1 (kf k)) x 15) (hc : c = regIf (hRs2 (kf k)) x 20) (hn : n = number x (kf k)) (w : World) :
    Calls Try.prog 24 #[.int .i64 (k : Int), .int .u32 (x.toNat : Int)] w fun e w' => e = .returned (.agg #[.int .i64 (k : Int), .int .i64 a, .int .i64 b, .int .i64 c, .int .i64 n]) ∧ Below w.heap.size w w' := by
  have h8 := is8_kf k hk
  rw [ha, hb, hc, hn, ← refN_all x (kf k) h8]
  exact rtry_core k hk x _ rfl _ _ _ _ (inB_Rd _ h8) (inB_Rs1 _ h8) (inB_Rs2 _ h8) (inB_Sg _ h8) rfl w
theorem renc_to (op rd rs1 rs2 imm : Int) (x : BitVec 32) (h : right op rd rs1 rs2 imm = true) (he : enc op rd rs1 rs2 imm = x) (w : World) : Calls Try.prog 13 #[.agg #[.int .i64 op, .int .i64 rd, .int .i64 rs1, .int .i64 rs2, .int .i64 imm]] w fun e w' => e = .returned (.tuple #[.int .u32 (x.toNat : Int), .int .i64 0]) ∧ Below w.heap.size w w' := by
  subst he; exact rencode_yes op rd rs1 rs2 imm h w

/-- A world in which the answer's box is still zero and may be written; all that was there is as it was. -/
structure HeldZ (w : World) (W : World) : Prop where
  z0 : W.cell? ⟨w.heap.size, 0, none⟩ = some (.int .i64 0)
  z1 : W.cell? ⟨w.heap.size, 1, none⟩ = some (.int .i64 0)
  z2 : W.cell? ⟨w.heap.size, 2, none⟩ = some (.int .i64 0)
  z3 : W.cell? ⟨w.heap.size, 3, none⟩ = some (.int .i64 0)
  z4 : W.cell? ⟨w.heap.size, 4, none⟩ = some (.int .i64 0)
  f0 : ∀ o, W.frozen? ⟨w.heap.size, o, none⟩ = false
  below : Below w.heap.size w W
  s0 : w.heap.size < W.heap.size
theorem HeldZ.later {w W w1 : World} (h : HeldZ w W) (hb : Below W.heap.size W w1) : HeldZ w w1 := by
  obtain ⟨hc, hf⟩ := bcell hb
  exact ⟨(hc _ _ h.s0).trans h.z0, (hc _ _ h.s0).trans h.z1, (hc _ _ h.s0).trans h.z2, (hc _ _ h.s0).trans h.z3, (hc _ _ h.s0).trans h.z4, fun o => (hf _ _ h.s0).trans (h.f0 o), h.below.trans (hb.mono (by have := h.s0; omega)), Nat.lt_of_lt_of_le h.s0 hb.size⟩
theorem HeldZ.alloc {w W : World} (h : HeldZ w W) (o : Obj) : HeldZ w (W.alloc o) := h.later ((Below.refl _ _).alloc (Nat.le_refl _) _)
theorem HeldZ.start (w : World) (t : TypeId) : HeldZ w (w.alloc (.cells #[.int .i64 0, .int .i64 0, .int .i64 0, .int .i64 0, .int .i64 0] t)) := by
  have hn : ∀ o, (w.alloc (.cells #[.int .i64 0, .int .i64 0, .int .i64 0, .int .i64 0, .int .i64 0] t)).cell? ⟨w.heap.size, o, none⟩ = (#[.int .i64 0, .int .i64 0, .int .i64 0, .int .i64 0, .int .i64 0] : Array Value)[o]? := fun o => by
    rw [World.cell?_alloc_at _ _ _ _ rfl]
  exact ⟨hn 0, hn 1, hn 2, hn 3, hn 4, fun o => by simp, (Below.refl _ _).alloc (Nat.le_refl _) _, by simp⟩

set_option maxHeartbeats 4000000 in
theorem rdecode_core (x : BitVec 32) (r : Nat) (hr : r ≤ 47) (hno : ∀ j, j < r → asked x j = false) (hyes : r < 47 → asked x r = true) (K A B C N E : Int)
    (hK : r < 47 → K = (r : Int) ∧ A = regIf (hRd (kf r)) x 7 ∧ B = regIf (hRs1 (kf r)) x 15 ∧ C = regIf (hRs2 (kf r)) x 20 ∧ N = number x (kf r) ∧ E = 0) (hZ : r = 47 → K = 0 ∧ A = 0 ∧ B = 0 ∧ C = 0 ∧ N = 0 ∧ E = 20) (w : World) :
    Calls Try.prog 10 #[.int .u32 (x.toNat : Int)] w fun e w' => e = .returned (.tuple #[.agg #[.int .i64 K, .int .i64 A, .int .i64 B, .int .i64 C, .int .i64 N], .int .i64 E]) ∧ Below w.heap.size w w' := by
  have HN : Hid (∀ j, j < r → asked x j = false) := hno
  have HY : Hid (r < 47 → asked x r = true) := hyes
  have HK : Hid (r < 47 → K = (r : Int) ∧ A = regIf (hRd (kf r)) x 7 ∧ B = regIf (hRs1 (kf r)) x 15 ∧ C = regIf (hRs2 (kf r)) x 20 ∧ N = number x (kf r) ∧ E = 0) := hK
  have HZ : Hid (r = 47 → K = 0 ∧ A = 0 ∧ B = 0 ∧ C = 0 ∧ N = 0 ∧ E = 20) := hZ
  have HST : Hid (HeldZ w (w.alloc (.cells #[.int .i64 0, .int .i64 0, .int .i64 0, .int .i64 0, .int .i64 0] 24))) := HeldZ.start w _
  clear hno hyes hK hZ
  go_enter Try.func10, Try.ntmps10
  go_wp2_with fail
  go_loopw [4] (fun i wr => ∃ j : Nat, j ≤ r ∧ i = .int .i64 (j : Int) ∧ HeldZ w wr) (fun i _ => (47 - intOf i).toNat)
  case atStart => exact ⟨0, Nat.zero_le _, rfl, HST.out⟩
  case round =>
    obtain ⟨j, hj, rfl, hw⟩ := hrel
    have HW : Hid (HeldZ w wr) := hw
    clear hw HST
    by_cases hlt : j < 47
    · obtain ⟨a, b, c, n, ha, hb, hc, hn⟩ : ∃ a b c n : Int, Hid (a = regIf (hRd (kf j)) x 7) ∧ Hid (b = regIf (hRs1 (kf j)) x 15) ∧ Hid (c = regIf (hRs2 (kf j)) x 20) ∧ Hid (n = number x (kf j)) := ⟨_, _, _, _, rfl, rfl, rfl, rfl⟩
      cases hask : asked x j
      · have E1 : j + 1 ≤ r := by
          rcases Nat.lt_or_eq_of_le hj with q | q
          · omega
          · have := HY.out (by omega)
            rw [← q, hask] at this; cases this
        cases hri : right (j : Int) a b c n
        · clear hask
          go_wp2_with fail
          refine (rtry_to j hlt x a b c n ha.out hb.out hc.out hn.out _).mono ?_
          rintro e w1 ⟨rfl, b1⟩
          go_wp2_with fail
          refine (rencode_no _ _ _ _ _ hri _).mono ?_
          rintro e w2 ⟨rfl, b2⟩
          go_wp2_with fail
          go_roundw
          case rel => exact ⟨j + 1, by omega, by go_num, ((HW.out.later b1).alloc _).later b2⟩
          case measure => simp [intOf]; omega
        · have hneq : (((enc (j : Int) a b c n).toNat : Int) == (x.toNat : Int)) = false := by
            rw [beq_eq_false_iff_ne]
            intro q
            have q2 : enc (j : Int) a b c n = x := BitVec.eq_of_toNat_eq (Int.natCast_inj.1 q)
            have := (there j hlt a b c n hri).1
            rw [q2, hask] at this; cases this
          clear hask
          go_wp2_with fail
          refine (rtry_to j hlt x a b c n ha.out hb.out hc.out hn.out _).mono ?_
          rintro e w1 ⟨rfl, b1⟩
          go_wp2_with fail
          refine (rencode_yes _ _ _ _ _ hri _).mono ?_
          rintro e w2 ⟨rfl, b2⟩
          go_wp2_with fail
          go_roundw
          case rel => exact ⟨j + 1, by omega, by go_num, ((HW.out.later b1).alloc _).later b2⟩
          case measure => simp [intOf]; omega
      · have e1 : j = r := by
          rcases Nat.lt_or_eq_of_le hj with q | q
          · have := HN.out j q
            rw [hask] at this; cases this
          · exact q
        obtain ⟨k1, k2, k3, k4, k5, k6⟩ := HK.out (by omega)
        rw [← e1, ← ha.out] at k2
        rw [← e1, ← hb.out] at k3
        rw [← e1, ← hc.out] at k4
        rw [← e1, ← hn.out] at k5
        rw [← e1] at k1
        have hag := again j hlt x hask
        rw [← ha.out, ← hb.out, ← hc.out, ← hn.out] at hag
        obtain ⟨hri, hen⟩ := hag
        have HEN : Hid (enc (j : Int) a b c n = x) := hen
        subst k1 k2 k3 k4 k5 k6
        clear hask e1 hen
        go_wp2_with fail
        refine (rtry_to j hlt x _ _ _ _ ha.out hb.out hc.out hn.out _).mono ?_
        rintro e w1 ⟨rfl, b1⟩
        go_wp2_with fail
        refine (renc_to _ _ _ _ _ x hri HEN.out _).mono ?_
        rintro e w2 ⟨rfl, b2⟩
        obtain ⟨c2, _⟩ := bcell b2
        have z2 : w1.heap.size < w2.heap.size := by have := b2.size; simp at this; omega
        obtain ⟨y0, y1, y2, y3, y4, yf, hB, ys⟩ := ((HW.out.later b1).alloc _).later b2
        go_wp2_with fail
        refine bodyPost_ret (by simp [results, Try.results10, go_sem, y0, y1, y2, y3, y4]) rfl ⟨rfl, ?_⟩
        exact ((((hB.setCell (Nat.le_refl _) _).setCell (Nat.le_refl _) _).setCell (Nat.le_refl _) _).setCell (Nat.le_refl _) _).setCell (Nat.le_refl _) _
    · have e1 : j = 47 := by omega
      have e2 : r = 47 := by omega
      obtain ⟨k1, k2, k3, k4, k5, k6⟩ := HZ.out e2
      subst k1 k2 k3 k4 k5 k6
      obtain ⟨y0, y1, y2, y3, y4, yf, hB, ys⟩ := HW.out
      clear e1 e2
      go_wp2_with fail
      refine bodyPost_ret (by simp [results, Try.results10, go_sem, y0, y1, y2, y3, y4]) rfl ⟨rfl, ?_⟩
      exact ((((hB.setCell (Nat.le_refl _) _).setCell (Nat.le_refl _) _).setCell (Nat.le_refl _) _).setCell (Nat.le_refl _) _).setCell (Nat.le_refl _) _
end Go.Proofs.Ytoiheamdnlaahaa
