/-
  The walk of InstBack: it answers true of any two instructions and any word.
-/
import Derived.Test.YtoiheamdnlaahaaIY
namespace Go.Proofs.Ytoiheamdnlaahaa
open Go.RowKit Ip

theorem boxes {w W : World} {a b c d e a' b' c' d' e' : Int} {t : TypeId} (h : Below ((w.alloc (.cells #[.int .i64 a, .int .i64 b, .int .i64 c, .int .i64 d, .int .i64 e] t)).alloc (.cells #[.int .i64 a', .int .i64 b', .int .i64 c', .int .i64 d', .int .i64 e'] t)).heap.size ((w.alloc (.cells #[.int .i64 a, .int .i64 b, .int .i64 c, .int .i64 d, .int .i64 e] t)).alloc (.cells #[.int .i64 a', .int .i64 b', .int .i64 c', .int .i64 d', .int .i64 e'] t)) W) :
    (W.cell? ⟨w.heap.size, 0, none⟩ = some (.int .i64 a) ∧ W.cell? ⟨w.heap.size, 1, none⟩ = some (.int .i64 b) ∧ W.cell? ⟨w.heap.size, 2, none⟩ = some (.int .i64 c) ∧ W.cell? ⟨w.heap.size, 3, none⟩ = some (.int .i64 d) ∧ W.cell? ⟨w.heap.size, 4, none⟩ = some (.int .i64 e)) ∧
    (W.cell? ⟨w.heap.size + 1, 0, none⟩ = some (.int .i64 a') ∧ W.cell? ⟨w.heap.size + 1, 1, none⟩ = some (.int .i64 b') ∧ W.cell? ⟨w.heap.size + 1, 2, none⟩ = some (.int .i64 c') ∧ W.cell? ⟨w.heap.size + 1, 3, none⟩ = some (.int .i64 d') ∧ W.cell? ⟨w.heap.size + 1, 4, none⟩ = some (.int .i64 e')) ∧ w.heap.size + 1 < W.heap.size ∧ w.heap.size < W.heap.size := by
  obtain ⟨hc, _⟩ := bcell h
  have hs := h.size
  simp at hs
  refine ⟨⟨?_, ?_, ?_, ?_, ?_⟩, ⟨?_, ?_, ?_, ?_, ?_⟩, by omega, by omega⟩
  all_goals (rw [hc _ _ (by simp <;> omega)]; simp)
set_option maxHeartbeats 4000000 in
theorem instBack_walk (op rd rs1 rs2 imm op' rd' rs1' rs2' imm' : Int) (x : BitVec 32) (w : World) : Calls Try.prog 6 #[.agg #[.int .i64 op, .int .i64 rd, .int .i64 rs1, .int .i64 rs2, .int .i64 imm], .agg #[.int .i64 op', .int .i64 rd', .int .i64 rs1', .int .i64 rs2', .int .i64 imm'], .int .u32 (x.toNat : Int)] w fun e w' => e = .returned (.bool true) ∧ Below w.heap.size w w' := by
  have hq := eqlX
  have hq' := neqX
  have hself := sameX_self
  cases h1 : right op rd rs1 rs2 imm
  · go_enter Try.func6, Try.ntmps6
    go_wp2_with fail
    refine (encode_no op rd rs1 rs2 imm h1 _).mono ?_
    rintro e w1 ⟨rfl, b1⟩
    obtain ⟨_, ⟨y0, y1, y2, y3, y4⟩, z1, z1'⟩ := boxes b1
    have g1 : Below w.heap.size w w1 := (((Below.refl _ _).alloc (Nat.le_refl _) _).alloc (by simp) _).trans (b1.mono (by simp; omega))
    go_wp2_with fail
    cases h2 : right op' rd' rs1' rs2' imm'
    · refine (encode_no _ _ _ _ _ h2 _).mono ?_
      rintro e w2 ⟨rfl, b2⟩
      clear y0 y1 y2 y3 y4 z1 z1'
      have g2 : Below w.heap.size w w2 := g1.trans (b2.mono g1.size)
      rcases dec_cases x with hD | ⟨zo, za, zb, zc, zn, hr, he, hD⟩
      · have HD : Hid (∀ w : World, Calls Try.prog 9 #[.int .u32 (x.toNat : Int)] w fun e w' => e = .returned (.tuple #[.agg #[.int .i64 0, .int .i64 0, .int .i64 0, .int .i64 0, .int .i64 0], .int .i64 20]) ∧ Below w.heap.size w w') := hD
        clear hD
        go_wp2_with fail
        refine (HD.out _).mono ?_
        rintro e w7 ⟨rfl, b7⟩
        go_wp2_with fail
        refine (fixed_any _).mono ?_
        rintro e w8 ⟨rfl, b8⟩
        go_wp2_with fail
        go_ret
        have g7 := g2.trans (b7.mono (by first | exact g2.size | (simp; have := g2.size; omega)))
        exact ⟨rfl, (g7.alloc g7.size _).trans (b8.mono (by simp; have := g7.size; omega))⟩
      · have HD : Hid (∀ w : World, Calls Try.prog 9 #[.int .u32 (x.toNat : Int)] w fun e w' => e = .returned (.tuple #[.agg #[.int .i64 zo, .int .i64 za, .int .i64 zb, .int .i64 zc, .int .i64 zn], .int .i64 0]) ∧ Below w.heap.size w w') := hD
        have HE : Hid (((enc zo za zb zc zn).toNat : Int) = (x.toNat : Int)) := by rw [he]; rfl
        clear hD he
        go_wp2_with fail
        refine (HD.out _).mono ?_
        rintro e w7 ⟨rfl, b7⟩
        go_wp2_with fail
        refine (enc_lit zo za zb zc zn _ hr HE.out _).mono ?_
        rintro e w8 ⟨rfl, b8⟩
        obtain ⟨c8, f8⟩ := bcell b8
        go_wp2_with fail
        refine (right_any zo za zb zc zn _).mono ?_
        rintro e w9 ⟨rfl, b9⟩
        rw [hr]
        go_wp2_with fail
        refine (fixed_any _).mono ?_
        rintro e w10 ⟨rfl, b10⟩
        go_wp2_with fail
        go_ret
        have g7 := g2.trans (b7.mono (by first | exact g2.size | (simp; have := g2.size; omega)))
        have g8 := (g7.alloc g7.size _).trans (b8.mono (by simp; have := g7.size; omega))
        have g9 := g8.trans (b9.mono g8.size)
        exact ⟨rfl, g9.trans (b10.mono g9.size)⟩
    · refine (encode_yes _ _ _ _ _ h2 _).mono ?_
      rintro e w2 ⟨rfl, b2⟩
      clear y0 y1 y2 y3 y4 z1 z1'
      have g2 : Below w.heap.size w w2 := g1.trans (b2.mono g1.size)
      rcases dec_cases x with hD | ⟨zo, za, zb, zc, zn, hr, he, hD⟩
      · have HD : Hid (∀ w : World, Calls Try.prog 9 #[.int .u32 (x.toNat : Int)] w fun e w' => e = .returned (.tuple #[.agg #[.int .i64 0, .int .i64 0, .int .i64 0, .int .i64 0, .int .i64 0], .int .i64 20]) ∧ Below w.heap.size w w') := hD
        clear hD
        go_wp2_with fail
        refine (HD.out _).mono ?_
        rintro e w7 ⟨rfl, b7⟩
        go_wp2_with fail
        refine (fixed_any _).mono ?_
        rintro e w8 ⟨rfl, b8⟩
        go_wp2_with fail
        go_ret
        have g7 := g2.trans (b7.mono (by first | exact g2.size | (simp; have := g2.size; omega)))
        exact ⟨rfl, (g7.alloc g7.size _).trans (b8.mono (by simp; have := g7.size; omega))⟩
      · have HD : Hid (∀ w : World, Calls Try.prog 9 #[.int .u32 (x.toNat : Int)] w fun e w' => e = .returned (.tuple #[.agg #[.int .i64 zo, .int .i64 za, .int .i64 zb, .int .i64 zc, .int .i64 zn], .int .i64 0]) ∧ Below w.heap.size w w') := hD
        have HE : Hid (((enc zo za zb zc zn).toNat : Int) = (x.toNat : Int)) := by rw [he]; rfl
        clear hD he
        go_wp2_with fail
        refine (HD.out _).mono ?_
        rintro e w7 ⟨rfl, b7⟩
        go_wp2_with fail
        refine (enc_lit zo za zb zc zn _ hr HE.out _).mono ?_
        rintro e w8 ⟨rfl, b8⟩
        obtain ⟨c8, f8⟩ := bcell b8
        go_wp2_with fail
        refine (right_any zo za zb zc zn _).mono ?_
        rintro e w9 ⟨rfl, b9⟩
        rw [hr]
        go_wp2_with fail
        refine (fixed_any _).mono ?_
        rintro e w10 ⟨rfl, b10⟩
        go_wp2_with fail
        go_ret
        have g7 := g2.trans (b7.mono (by first | exact g2.size | (simp; have := g2.size; omega)))
        have g8 := (g7.alloc g7.size _).trans (b8.mono (by simp; have := g7.size; omega))
        have g9 := g8.trans (b9.mono g8.size)
        exact ⟨rfl, g9.trans (b10.mono g9.size)⟩
  · go_enter Try.func6, Try.ntmps6
    go_wp2_with fail
    refine (encode_yes op rd rs1 rs2 imm h1 _).mono ?_
    rintro e w1 ⟨rfl, b1⟩
    obtain ⟨_, ⟨y0, y1, y2, y3, y4⟩, z1, z1'⟩ := boxes b1
    have g1 : Below w.heap.size w w1 := (((Below.refl _ _).alloc (Nat.le_refl _) _).alloc (by simp) _).trans (b1.mono (by simp; omega))
    go_wp2_with fail
    cases h2 : right op' rd' rs1' rs2' imm'
    · refine (encode_no _ _ _ _ _ h2 _).mono ?_
      rintro e w2 ⟨rfl, b2⟩
      clear y0 y1 y2 y3 y4 z1 z1'
      have g2 : Below w.heap.size w w2 := g1.trans (b2.mono g1.size)
      go_wp2_with fail
      refine (dec_enc op rd rs1 rs2 imm h1 _).mono ?_
      rintro e w3 ⟨rfl, b3⟩
      have g3 : Below w.heap.size w w3 := g2.trans (b3.mono g2.size)
      obtain ⟨⟨x0, x1, x2, x3, x4⟩, ⟨y0, y1, y2, y3, y4⟩, z3, z3'⟩ := boxes ((b1.trans (b2.mono b1.size)).trans (b3.mono (Nat.le_trans b1.size b2.size)))
      have g4 := g3.alloc g3.size (.cells #[.int .i64 op, .int .i64 rd, .int .i64 rs1, .int .i64 rs2, .int .i64 imm] 24)
      rcases dec_cases x with hD | ⟨zo, za, zb, zc, zn, hr, he, hD⟩
      · have HD : Hid (∀ w : World, Calls Try.prog 9 #[.int .u32 (x.toNat : Int)] w fun e w' => e = .returned (.tuple #[.agg #[.int .i64 0, .int .i64 0, .int .i64 0, .int .i64 0, .int .i64 0], .int .i64 20]) ∧ Below w.heap.size w w') := hD
        clear hD
        go_wp2_with fail
        refine (HD.out _).mono ?_
        rintro e w7 ⟨rfl, b7⟩
        go_wp2_with fail
        refine (fixed_any _).mono ?_
        rintro e w8 ⟨rfl, b8⟩
        go_wp2_with fail
        go_ret
        have g7 := g4.trans (b7.mono (by first | exact g4.size | (simp; have := g4.size; omega)))
        exact ⟨rfl, (g7.alloc g7.size _).trans (b8.mono (by simp; have := g7.size; omega))⟩
      · have HD : Hid (∀ w : World, Calls Try.prog 9 #[.int .u32 (x.toNat : Int)] w fun e w' => e = .returned (.tuple #[.agg #[.int .i64 zo, .int .i64 za, .int .i64 zb, .int .i64 zc, .int .i64 zn], .int .i64 0]) ∧ Below w.heap.size w w') := hD
        have HE : Hid (((enc zo za zb zc zn).toNat : Int) = (x.toNat : Int)) := by rw [he]; rfl
        clear hD he
        go_wp2_with fail
        refine (HD.out _).mono ?_
        rintro e w7 ⟨rfl, b7⟩
        go_wp2_with fail
        refine (enc_lit zo za zb zc zn _ hr HE.out _).mono ?_
        rintro e w8 ⟨rfl, b8⟩
        obtain ⟨c8, f8⟩ := bcell b8
        go_wp2_with fail
        refine (right_any zo za zb zc zn _).mono ?_
        rintro e w9 ⟨rfl, b9⟩
        rw [hr]
        go_wp2_with fail
        refine (fixed_any _).mono ?_
        rintro e w10 ⟨rfl, b10⟩
        go_wp2_with fail
        go_ret
        have g7 := g4.trans (b7.mono (by first | exact g4.size | (simp; have := g4.size; omega)))
        have g8 := (g7.alloc g7.size _).trans (b8.mono (by simp; have := g7.size; omega))
        have g9 := g8.trans (b9.mono g8.size)
        exact ⟨rfl, g9.trans (b10.mono g9.size)⟩
    · cases hs : sameX op rd rs1 rs2 imm op' rd' rs1' rs2' imm'
      · have hne := enc_ne _ _ _ _ _ _ _ _ _ _ h1 h2 hs
        refine (encode_yes _ _ _ _ _ h2 _).mono ?_
        rintro e w2 ⟨rfl, b2⟩
        clear y0 y1 y2 y3 y4 z1 z1'
        have g2 : Below w.heap.size w w2 := g1.trans (b2.mono g1.size)
        go_wp2_with fail
        refine (dec_enc op rd rs1 rs2 imm h1 _).mono ?_
        rintro e w3 ⟨rfl, b3⟩
        have g3 : Below w.heap.size w w3 := g2.trans (b3.mono g2.size)
        obtain ⟨⟨x0, x1, x2, x3, x4⟩, ⟨y0, y1, y2, y3, y4⟩, z3, z3'⟩ := boxes ((b1.trans (b2.mono b1.size)).trans (b3.mono (Nat.le_trans b1.size b2.size)))
        have g4 := g3.alloc g3.size (.cells #[.int .i64 op, .int .i64 rd, .int .i64 rs1, .int .i64 rs2, .int .i64 imm] 24)
        rcases dec_cases x with hD | ⟨zo, za, zb, zc, zn, hr, he, hD⟩
        · have HD : Hid (∀ w : World, Calls Try.prog 9 #[.int .u32 (x.toNat : Int)] w fun e w' => e = .returned (.tuple #[.agg #[.int .i64 0, .int .i64 0, .int .i64 0, .int .i64 0, .int .i64 0], .int .i64 20]) ∧ Below w.heap.size w w') := hD
          clear hD
          go_wp2_with fail
          refine (HD.out _).mono ?_
          rintro e w7 ⟨rfl, b7⟩
          go_wp2_with fail
          refine (fixed_any _).mono ?_
          rintro e w8 ⟨rfl, b8⟩
          go_wp2_with fail
          go_ret
          have g7 := g4.trans (b7.mono (by first | exact g4.size | (simp; have := g4.size; omega)))
          exact ⟨rfl, (g7.alloc g7.size _).trans (b8.mono (by simp; have := g7.size; omega))⟩
        · have HD : Hid (∀ w : World, Calls Try.prog 9 #[.int .u32 (x.toNat : Int)] w fun e w' => e = .returned (.tuple #[.agg #[.int .i64 zo, .int .i64 za, .int .i64 zb, .int .i64 zc, .int .i64 zn], .int .i64 0]) ∧ Below w.heap.size w w') := hD
          have HE : Hid (((enc zo za zb zc zn).toNat : Int) = (x.toNat : Int)) := by rw [he]; rfl
          clear hD he
          go_wp2_with fail
          refine (HD.out _).mono ?_
          rintro e w7 ⟨rfl, b7⟩
          go_wp2_with fail
          refine (enc_lit zo za zb zc zn _ hr HE.out _).mono ?_
          rintro e w8 ⟨rfl, b8⟩
          obtain ⟨c8, f8⟩ := bcell b8
          go_wp2_with fail
          refine (right_any zo za zb zc zn _).mono ?_
          rintro e w9 ⟨rfl, b9⟩
          rw [hr]
          go_wp2_with fail
          refine (fixed_any _).mono ?_
          rintro e w10 ⟨rfl, b10⟩
          go_wp2_with fail
          go_ret
          have g7 := g4.trans (b7.mono (by first | exact g4.size | (simp; have := g4.size; omega)))
          have g8 := (g7.alloc g7.size _).trans (b8.mono (by simp; have := g7.size; omega))
          have g9 := g8.trans (b9.mono g8.size)
          exact ⟨rfl, g9.trans (b10.mono g9.size)⟩
      · obtain ⟨rfl, rfl, rfl, rfl, rfl⟩ := sameX_eq hs
        refine (encode_yes _ _ _ _ _ h2 _).mono ?_
        rintro e w2 ⟨rfl, b2⟩
        clear y0 y1 y2 y3 y4 z1 z1'
        have g2 : Below w.heap.size w w2 := g1.trans (b2.mono g1.size)
        go_wp2_with fail
        refine (dec_enc op rd rs1 rs2 imm h1 _).mono ?_
        rintro e w3 ⟨rfl, b3⟩
        have g3 : Below w.heap.size w w3 := g2.trans (b3.mono g2.size)
        obtain ⟨⟨x0, x1, x2, x3, x4⟩, ⟨y0, y1, y2, y3, y4⟩, z3, z3'⟩ := boxes ((b1.trans (b2.mono b1.size)).trans (b3.mono (Nat.le_trans b1.size b2.size)))
        have g4 := g3.alloc g3.size (.cells #[.int .i64 op, .int .i64 rd, .int .i64 rs1, .int .i64 rs2, .int .i64 imm] 24)
        rcases dec_cases x with hD | ⟨zo, za, zb, zc, zn, hr, he, hD⟩
        · have HD : Hid (∀ w : World, Calls Try.prog 9 #[.int .u32 (x.toNat : Int)] w fun e w' => e = .returned (.tuple #[.agg #[.int .i64 0, .int .i64 0, .int .i64 0, .int .i64 0, .int .i64 0], .int .i64 20]) ∧ Below w.heap.size w w') := hD
          clear hD
          go_wp2_with fail
          refine (HD.out _).mono ?_
          rintro e w7 ⟨rfl, b7⟩
          go_wp2_with fail
          refine (fixed_any _).mono ?_
          rintro e w8 ⟨rfl, b8⟩
          go_wp2_with fail
          go_ret
          have g7 := g4.trans (b7.mono (by first | exact g4.size | (simp; have := g4.size; omega)))
          exact ⟨rfl, (g7.alloc g7.size _).trans (b8.mono (by simp; have := g7.size; omega))⟩
        · have HD : Hid (∀ w : World, Calls Try.prog 9 #[.int .u32 (x.toNat : Int)] w fun e w' => e = .returned (.tuple #[.agg #[.int .i64 zo, .int .i64 za, .int .i64 zb, .int .i64 zc, .int .i64 zn], .int .i64 0]) ∧ Below w.heap.size w w') := hD
          have HE : Hid (((enc zo za zb zc zn).toNat : Int) = (x.toNat : Int)) := by rw [he]; rfl
          clear hD he
          go_wp2_with fail
          refine (HD.out _).mono ?_
          rintro e w7 ⟨rfl, b7⟩
          go_wp2_with fail
          refine (enc_lit zo za zb zc zn _ hr HE.out _).mono ?_
          rintro e w8 ⟨rfl, b8⟩
          obtain ⟨c8, f8⟩ := bcell b8
          go_wp2_with fail
          refine (right_any zo za zb zc zn _).mono ?_
          rintro e w9 ⟨rfl, b9⟩
          rw [hr]
          go_wp2_with fail
          refine (fixed_any _).mono ?_
          rintro e w10 ⟨rfl, b10⟩
          go_wp2_with fail
          go_ret
          have g7 := g4.trans (b7.mono (by first | exact g4.size | (simp; have := g4.size; omega)))
          have g8 := (g7.alloc g7.size _).trans (b8.mono (by simp; have := g7.size; omega))
          have g9 := g8.trans (b9.mono g8.size)
          exact ⟨rfl, g9.trans (b10.mono g9.size)⟩
end Go.Proofs.Ytoiheamdnlaahaa
