/-
  Contract of whetstonelaw10.Laid.
  Contract of whetstonelaw10.fixed.
-/

import Derived.Test.YthlefedljgmmfaaZW4
namespace Go.Proofs.Ythlefedljgmmfaa
open Go.RowKit Go.Lib Tm
set_option linter.unusedSimpArgs false
set_option linter.unusedVariables false

theorem Pr.copy {Dag : World → Nat → List Trm → (Nat → Prop) → Prop} {w W W1 W2 : World} {g g2 g3 : Nat} {L L2 : List Trm} {fp fp1 fp1' fp2 fp3 : Nat → Prop} (HT : TmAll Dag) (h : Pr Dag w g L fp g2 L2 fp2 W) (h1 : Dag W1 g L fp1) (h3 : Dag W1 g3 L fp3) (hc : Chg fp fp1 W W1) (hn : ∀ k, fp3 k → W.heap.size ≤ k) (ha : ∀ k, fp3 k → ¬ fp1 k) (hc2 : Chg fp1 fp1' W1 W2) : Pr Dag w g3 L fp3 g2 L2 fp2 W2 := by
  have hl := h.left HT h1 hc
  refine ⟨HT.keep h3 hc2.size (fun k hk => hc2.block k (HT.lt h3 k hk) (ha k hk)), hl.k.keep hc2.size (fun k hk => hc2.block k (hl.k.lt k hk) (fun c => hl.apart k c hk)), fun j hj hj2 => ?_, fun j hj => Nat.le_trans h.low.size (hn j hj), h.lo2, hl.low.trans (hc2.below hl.low.size hl.lo)⟩
  have := h.k.lt j hj2
  have := hn j hj
  omega
theorem SlO.fiveAt {W : World} {g o n c : Nat} {l : List Opc} (h : SlO W (.slice (some ⟨g, o, none⟩) n c) l) {i : Nat} {x : Opc} (hx : l[i]? = some x) :
    W.cell? ⟨g, o + i * 5, none⟩ = some (.int .i64 x.kind) ∧ W.cell? ⟨g, o + i * 5 + 1, none⟩ = some (.int .u32 (x.v.toNat : Int)) ∧ W.cell? ⟨g, o + i * 5 + 2, none⟩ = some (.int .i64 x.op) ∧ W.cell? ⟨g, o + i * 5 + 3, none⟩ = some (.int .i64 x.a) ∧ W.cell? ⟨g, o + i * 5 + 4, none⟩ = some (.int .i64 x.b) := by
  obtain ⟨g', o', e, h⟩ := h.five hx
  injection e with e
  injection e with e1 e2
  subst e1 e2
  exact h
theorem run_all (s : List Opc) {k : Nat} (h : k = 60 ∨ (k = s.length ∧ k ≤ 60)) : runL (s.take 60) = runL (s.take k) := by
  rcases h with rfl | ⟨rfl, h⟩
  · rfl
  · rw [List.take_of_length_le h, List.take_length]
theorem run_len (s : List Opc) (k : Nat) : (runL (s.take k)).length ≤ k := Nat.le_trans (run_ok (s.take k)).2 (by rw [List.length_take]; omega)
set_option maxHeartbeats 8000000 in
set_option maxRecDepth 100000 in
theorem laid_any {Dag : World → Nat → List Trm → (Nat → Prop) → Prop} (HT : TmAll Dag) (p : Option Addr) (c : Nat) (s : List Opc) (w : World) (hS : SlO w (.slice p s.length c) s) (ho : ∀ o ∈ s, OkO o) (hn : s.length ≤ 9223372036854775807) :
    Calls Try.prog 9 #[.slice p s.length c] w fun e w' => ∃ g g2, e = .returned (.tuple #[ptrV g, ptrV g2, .bool true]) ∧ ∃ fp fp2, Pr Dag w g (runL (s.take 60)) fp g2 (runL (s.take 60)) fp2 w' := by
  obtain ⟨n, hnn⟩ : ∃ n, s.length = n := ⟨_, rfl⟩
  rw [hnn] at hS hn ⊢
  have HN := hideE hnn
  have HS := hideE hS
  have HO := hideE ho
  have HNew := hideE (HT.new w)
  have HRNew := hideE (fun W => rnew_any W)
  simp only [ptrV] at HNew HRNew
  clear hS ho hnn
  go_enter Try.func9, Try.ntmps9
  go_upto_region 3 with (first
    | (go_at_call 20; refine HNew.out.mono ?_; rintro e w1 ⟨g, fp, rfl, hd1, hlo1, hb1⟩)
    | (go_at_call 22; refine (HRNew.out _).mono ?_; rintro e w2 ⟨g2, fp2, rfl, hd2, hlo2, hb2⟩))
  refine gen_world (fun W => Pr Dag w g [] fp g2 [] fp2 W) ⟨HT.keep hd1 hb2.size (fun k hk => hb2.block k (HT.lt hd1 k hk)), hd2, fun j hj hj2 => (by have := HT.lt hd1 j hj; have := hlo2 j hj2; omega), hlo1, fun j hj => Nat.le_trans hb1.size (hlo2 j hj), hb1.trans (hb2.mono hb1.size)⟩ ?_
  clear hd1 hlo1 hb1 hd2 hlo2 hb2
  intro w3 hp
  go_loopg [5, 7] 60 (fun q dv j W => ∃ (k g : Nat) (fp fp2 : Nat → Prop), k + q = 60 ∧ k ≤ n ∧ dv = .pointer (some ⟨g, 0, none⟩) ∧ j = .int .i64 (k : Int) ∧ Pr Dag w g (runL (s.take k)) fp g2 (runL (s.take k)) fp2 W)
  case atStart => exact ⟨0, g, fp, fp2, by omega, by omega, rfl, rfl, hp⟩
  case round =>
    clear hp
    obtain ⟨k, g, fp, fp2, hkq, hkn, rfl, rfl, hp⟩ := hrel
    have HP := hideE hp
    clear hp
    cases gk with
    | zero =>
      obtain rfl : k = 60 := by omega
      by_cases h60 : (60 : Int) < (n : Int)
      · go_wp2_with fail
        go_ret3
        exact ⟨g, g2, rfl, fp, fp2, HP.out⟩
      · go_wp2_with fail
        go_ret3
        exact ⟨g, g2, rfl, fp, fp2, HP.out⟩
    | succ q =>
      have hk60 : (k : Int) < 60 := by omega
      have hk0 : (0 : Int) ≤ (k : Int) := by omega
      have hwk : IntKind.i64.wrap ((k : Int) + 1) = (k : Int) + 1 := wrE (by omega) (by omega)
      by_cases hkl : k = n
      · subst hkl
        have hk : ¬ ((k : Int) < (k : Int)) := by omega
        go_wp2_with fail
        go_ret3
        exact ⟨g, g2, rfl, fp, fp2, by rw [run_all s (.inr ⟨HN.out.symm, by omega⟩)]; exact HP.out⟩
      · have hk : (k : Int) < (n : Int) := by omega
        obtain ⟨o, hok⟩ : ∃ o, s[k]? = some o := ⟨s[k]'(by rw [HN.out]; omega), List.getElem?_eq_getElem (by rw [HN.out]; omega)⟩
        obtain ⟨gs, os, rfl, e0, e1, e2, e3, e4⟩ := (HS.out.below HP.out.low).five hok
        have HOk := hideE (HO.out o (List.mem_of_getElem? hok))
        have HSt := hideE (run_take s hok)
        have HL := hideE (run_ok (s.take k)).1
        have HLn := hideE (Nat.le_trans (run_len s k) (by omega) : (runL (s.take k)).length ≤ 1000)
        obtain ⟨L, hL⟩ : ∃ L, runL (s.take k) = L := ⟨_, rfl⟩
        rw [hL] at HP HSt HL HLn
        obtain ⟨kk, kv, ko, ka, kb⟩ := o
        simp only at e0 e1 e2 e3 e4
        have HK5 := hideE hok
        clear hok hL
        by_cases hc : kk = 3
        · subst hc
          have HSs : Hid (stepL L ⟨3, kv, ko, ka, kb⟩ = L) := by show _ = _; unfold stepL; rw [if_neg (show ¬ ((3 : Int) = 0) by decide), if_neg (show ¬ ((3 : Int) = 1) by decide), if_neg (show ¬ ((3 : Int) = 2) by decide)]
          have HC := hideE (HT.copy HL.out HLn.out HP.out.d)
          have HK := hideE (fun W fp1 (hW : Dag W g L fp1) => HT.const kv HL.out HLn.out hW)
          simp only [ptrV] at HC HK
          go_wp2_with (first
            | (go_at_call 23; refine HC.out.mono ?_; rintro e w5 ⟨g3, fp1, fp3, rfl, h1, h3, hc1, hn3, ha3⟩; have H1 := hideE h1; have H3 := hideE h3; have HC1 := hideE hc1; have HN3 := hideE hn3; have HA3 := hideE ha3; obtain ⟨e0, e1, e2, e3, e4⟩ := (HS.out.below (HP.out.left HT h1 hc1).low).fiveAt HK5.out; clear h1 h3 hc1 hn3 ha3)
            | (go_at_call 17; refine (HK.out _ _ H1.out).mono ?_; rintro e w6 ⟨rfl, fp4, h4, hc4⟩; have HC4 := hideE hc4; clear h4 hc4))
          go_roundg q
          case measure => omega
          case rel => exact ⟨k + 1, g3, fp3, fp2, by omega, by omega, rfl, by simp, by rw [HSt.out, HSs.out]; exact HP.out.copy HT H1.out H3.out HC1.out HN3.out HA3.out HC4.out⟩
        · have hc3 : (kk == 3) = false := beq_eq_false_iff_ne.2 hc
          have HD := hideE (fun W (hW : Pr Dag w g L fp g2 L fp2 W) => does_any10 HT ⟨kk, kv, ko, ka, kb⟩ HOk.out W HL.out HLn.out hW)
          simp only [opcV] at HD
          go_wp2_with (go_at_call 24; refine (HD.out _ HP.out).mono ?_; rintro e w5 ⟨rfl, fp1, fp3, h5⟩; have H5 := hideE h5; clear h5)
          go_roundg q
          case measure => omega
          case rel => exact ⟨k + 1, g, fp1, fp3, by omega, by omega, rfl, by simp, by rw [HSt.out]; exact H5.out⟩
end Go.Proofs.Ythlefedljgmmfaa
namespace Go.Proofs.Ythlefedljgmmfaa
open Go.RowKit Go.Lib Tm
set_option linter.unusedSimpArgs false
set_option linter.unusedVariables false

/-- One object of the code, over a world from which all grew. -/
structure Fx (Dag : World → Nat → List Trm → (Nat → Prop) → Prop) (w : World) (g : Nat) (L : List Trm) (fp : Nat → Prop) (W : World) : Prop where
  d : Dag W g L fp
  lo : ∀ j, fp j → w.heap.size ≤ j
  low : Below w.heap.size w W
section
variable {Dag : World → Nat → List Trm → (Nat → Prop) → Prop} {w W W' : World} {g : Nat} {L L' : List Trm} {fp fp' : Nat → Prop}
theorem Fx.step (h : Fx Dag w g L fp W) (hd : Dag W' g L' fp') (hc : Chg fp fp' W W') : Fx Dag w g L' fp' W' :=
  ⟨hd, fun j hj => (hc.grow j hj).elim (h.lo j) (fun c => Nat.le_trans h.low.size c), h.low.trans (hc.below h.low.size h.lo)⟩
theorem Fx.below (HT : TmAll Dag) (h : Fx Dag w g L fp W) (hb : Below W.heap.size W W') : Fx Dag w g L fp W' :=
  ⟨HT.keep h.d hb.size (fun k hk => hb.block k (HT.lt h.d k hk)), h.lo, h.low.trans (hb.mono h.low.size)⟩
theorem Fx.free (HT : TmAll Dag) (h : Fx Dag w g L fp W) {b : Nat} (hb : W.heap.size ≤ b) : ¬ fp b := fun c => by have := HT.lt h.d b c; omega
end
def fL1 : List Trm := [constT (BitVec.ofNat 32 5)]
def fL2 : List Trm := [constT (BitVec.ofNat 32 5), regT 1]
def fL3 : List Trm := [constT (BitVec.ofNat 32 5), regT 1, opT 27 1 0]
def fX : Nat → BitVec 32 := fun r => if r = 1 then (BitVec.ofNat 32 7) else (BitVec.ofNat 32 0)
theorem fok1 : OkT fL1 := by have := (run_ok [⟨0, (BitVec.ofNat 32 5), 0, 0, 0⟩]).1; exact this
theorem fok2 : OkT fL2 := by have := (run_ok [⟨0, (BitVec.ofNat 32 5), 0, 0, 0⟩, ⟨1, (BitVec.ofNat 32 0), 0, 1, 0⟩]).1; exact this
theorem fok3 : OkT fL3 := by have := (run_ok [⟨0, (BitVec.ofNat 32 5), 0, 0, 0⟩, ⟨1, (BitVec.ofNat 32 0), 0, 1, 0⟩, ⟨2, (BitVec.ofNat 32 0), 27, 1, 0⟩]).1; exact this
theorem fnum : findT [] (constT (BitVec.ofNat 32 5)) = 0 ∧ regN fL1 1 = 1 ∧ regE 1 = 0 ∧ opN fL2 27 1 0 = 2 ∧ opE fL2 27 1 0 = 0 ∧ opN fL3 27 1 0 = 2 ∧ opE fL3 27 1 0 = 0 ∧ opN fL3 27 3 0 = 0 ∧ opE fL3 27 3 0 = 100 ∧ regE 32 = 1 ∧ regN fL3 32 = 0 ∧ nodeE fL3 2 = 0 := by decide +kernel
theorem flist : addT [] (constT (BitVec.ofNat 32 5)) = fL1 ∧ regL fL1 1 = fL2 ∧ opL fL2 27 1 0 = fL3 ∧ opL fL3 27 1 0 = fL3 ∧ opL fL3 27 3 0 = fL3 ∧ regL fL3 32 = fL3 ∧ nodeT fL3 2 = opT 27 1 0 := ⟨rfl, rfl, rfl, rfl, rfl, rfl, rfl⟩
theorem feval : evalN fX fL3 2 = (BitVec.ofNat 32 12) ∧ varsN fL3 2 = (BitVec.ofNat 32 2) := by decide +kernel
theorem fregs : regsC fX = #[.int .u32 0, .int .u32 7, .int .u32 0, .int .u32 0, .int .u32 0, .int .u32 0, .int .u32 0, .int .u32 0, .int .u32 0, .int .u32 0, .int .u32 0, .int .u32 0, .int .u32 0, .int .u32 0, .int .u32 0, .int .u32 0, .int .u32 0, .int .u32 0, .int .u32 0, .int .u32 0, .int .u32 0, .int .u32 0, .int .u32 0, .int .u32 0, .int .u32 0, .int .u32 0, .int .u32 0, .int .u32 0, .int .u32 0, .int .u32 0, .int .u32 0, .int .u32 0] := rfl
theorem faddi : opN fL3 18 0 0 = 0 ∧ opE fL3 18 0 0 = 1 ∧ opL fL3 18 0 0 = fL3 := ⟨by decide +kernel, by decide +kernel, rfl⟩
set_option maxHeartbeats 8000000 in
set_option maxRecDepth 100000 in
theorem fixed_any10 {Dag : World → Nat → List Trm → (Nat → Prop) → Prop} (HT : TmAll Dag) (w : World) :
    Calls Try.prog 12 #[] w fun e w' => e = .returned (.bool true) ∧ Below w.heap.size w w' := by
  have HNew := hideE (HT.new w)
  have HC1 := hideE (fun W g fp (h : Dag W g [] fp) => HT.const (BitVec.ofNat 32 5) ok_nil (by decide) h)
  have HC2 := hideE (fun W g fp (h : Dag W g fL1 fp) => HT.var 1 (by decide) fok1 (by decide) h)
  have HC3 := hideE (fun W g fp (h : Dag W g fL2 fp) => HT.op 27 1 0 (by decide) (by decide) (by decide) fok2 (by decide) h)
  have HC4 := hideE (fun W g fp (h : Dag W g fL3 fp) => HT.op 27 1 0 (by decide) (by decide) (by decide) fok3 (by decide) h)
  have HC5 := hideE (fun W g fp (h : Dag W g fL3 fp) => HT.op 27 3 0 (by decide) (by decide) (by decide) fok3 (by decide) h)
  have HC6 := hideE (fun W g fp (h : Dag W g fL3 fp) => HT.op 18 0 0 (by decide) (by decide) (by decide) fok3 (by decide) h)
  have HC7 := hideE (fun W g fp (h : Dag W g fL3 fp) => HT.var 32 (by decide) fok3 (by decide) h)
  have HC8 := hideE (fun W g fp (h : Dag W g fL3 fp) => HT.eval 2 fX (by decide) fok3 (by decide) h)
  have HC9 := hideE (fun W g fp (h : Dag W g fL3 fp) => HT.vars 2 (by decide) fok3 (by decide) h)
  have HCa := hideE (fun W g fp (h : Dag W g fL3 fp) => HT.node 2 (by decide) fok3 (by decide) h)
  have HCb := hideE (fun W g fp (h : Dag W g fL3 fp) => HT.len fok3 (by decide) h)
  obtain ⟨f1, f2, f3, f4, f5, f6, f7, f8, f9, f10, f11, f12⟩ := fnum
  obtain ⟨l1, l2, l3, l4, l5, l6, l7⟩ := flist
  obtain ⟨m1, m2, m3⟩ := faddi
  obtain ⟨v1, v2⟩ := feval
  simp only [ptrV, f1, f2, f3, f4, f5, f6, f7, f8, f9, f10, f11, f12, l1, l2, l3, l4, l5, l6, l7, m1, m2, m3, v1, v2, fregs] at HNew HC1 HC2 HC3 HC4 HC5 HC6 HC7 HC8 HC9 HCa HCb
  clear f1 f2 f3 f4 f5 f6 f7 f8 f9 f10 f11 f12 l1 l2 l3 l4 l5 l6 l7 m1 m2 m3 v1 v2
  have D1 : Hid (∀ W g fp, Dag W g [] fp → Calls Try.prog 17 #[.pointer (some ⟨g, 0, none⟩), .int .u32 5] W fun e w' => e = .returned (.int .i64 0) ∧ ∃ fp', Dag w' g fL1 fp' ∧ Chg fp fp' W w') := HC1
  have D2 : Hid (∀ W g fp, Dag W g fL1 fp → Calls Try.prog 18 #[.pointer (some ⟨g, 0, none⟩), .int .i64 1] W fun e w' => e = .returned (.tuple #[.int .i64 1, .int .i64 0]) ∧ ∃ fp', Dag w' g fL2 fp' ∧ Chg fp fp' W w') := HC2
  have D3 : Hid (∀ W g fp, Dag W g fL2 fp → Calls Try.prog 19 #[.pointer (some ⟨g, 0, none⟩), .int .i64 27, .int .i64 1, .int .i64 0] W fun e w' => e = .returned (.tuple #[.int .i64 2, .int .i64 0]) ∧ ∃ fp', Dag w' g fL3 fp' ∧ Chg fp fp' W w') := HC3
  have D4 : Hid (∀ W g fp, Dag W g fL3 fp → Calls Try.prog 19 #[.pointer (some ⟨g, 0, none⟩), .int .i64 27, .int .i64 1, .int .i64 0] W fun e w' => e = .returned (.tuple #[.int .i64 2, .int .i64 0]) ∧ ∃ fp', Dag w' g fL3 fp' ∧ Chg fp fp' W w') := HC4
  have D5 : Hid (∀ W g fp, Dag W g fL3 fp → Calls Try.prog 19 #[.pointer (some ⟨g, 0, none⟩), .int .i64 27, .int .i64 3, .int .i64 0] W fun e w' => e = .returned (.tuple #[.int .i64 0, .int .i64 100]) ∧ ∃ fp', Dag w' g fL3 fp' ∧ Chg fp fp' W w') := HC5
  have D6 : Hid (∀ W g fp, Dag W g fL3 fp → Calls Try.prog 19 #[.pointer (some ⟨g, 0, none⟩), .int .i64 18, .int .i64 0, .int .i64 0] W fun e w' => e = .returned (.tuple #[.int .i64 0, .int .i64 1]) ∧ ∃ fp', Dag w' g fL3 fp' ∧ Chg fp fp' W w') := HC6
  have D7 : Hid (∀ W g fp, Dag W g fL3 fp → Calls Try.prog 18 #[.pointer (some ⟨g, 0, none⟩), .int .i64 32] W fun e w' => e = .returned (.tuple #[.int .i64 0, .int .i64 1]) ∧ ∃ fp', Dag w' g fL3 fp' ∧ Chg fp fp' W w') := HC7
  have D9 : Hid (∀ W g fp, Dag W g fL3 fp → Calls Try.prog 15 #[.pointer (some ⟨g, 0, none⟩), .int .i64 2] W fun e w' => e = .returned (.tuple #[.int .u32 2, .int .i64 0]) ∧ ∃ fp', Dag w' g fL3 fp' ∧ Chg fp fp' W w') := HC9
  have Da : Hid (∀ W g fp, Dag W g fL3 fp → Calls Try.prog 11 #[.pointer (some ⟨g, 0, none⟩), .int .i64 2] W fun e w' => e = .returned (.tuple #[.agg #[.int .i64 2, .int .u32 0, .int .i64 27, .int .i64 1, .int .i64 0], .int .i64 0]) ∧ ∃ fp', Dag w' g fL3 fp' ∧ Chg fp fp' W w') := HCa
  have Db : Hid (∀ W g fp, Dag W g fL3 fp → Calls Try.prog 10 #[.pointer (some ⟨g, 0, none⟩)] W fun e w' => e = .returned (.int .i64 3) ∧ ∃ fp', Dag w' g fL3 fp' ∧ Chg fp fp' W w') := HCb
  clear HC1 HC2 HC3 HC4 HC5 HC6 HC7 HC9 HCa HCb
  go_enter Try.func12, Try.ntmps12
  go_upto_region 11 with (first
    | (go_at_call 20; refine HNew.out.mono ?_; rintro e w1 ⟨g, fp, rfl, hd1, hlo1, hb1⟩; have P0 : Hid (Fx Dag w g [] fp w1) := ⟨hd1, hlo1, hb1⟩; clear hd1 hlo1 hb1)
    | (go_at_call 17; refine (D1.out _ _ _ P0.out.d).mono ?_; rintro e w2 ⟨rfl, fp2, h, k⟩; have P1 := hideE (P0.out.step h k); clear h k P0)
    | (go_at_call 18; refine (D2.out _ _ _ P1.out.d).mono ?_; rintro e w3 ⟨rfl, fp3, h, k⟩; have P2 := hideE (P1.out.step h k); clear h k P1)
    | (go_at_call 19; refine (D3.out _ _ _ P2.out.d).mono ?_; rintro e w4 ⟨rfl, fp4, h, k⟩; have P3 := hideE (P2.out.step h k); clear h k P2)
    | (go_at_call 19; refine (D4.out _ _ _ P3.out.d).mono ?_; rintro e w5 ⟨rfl, fp5, h, k⟩; have P4 := hideE (P3.out.step h k); clear h k P3)
    | (go_at_call 19; refine (D5.out _ _ _ P4.out.d).mono ?_; rintro e w6 ⟨rfl, fp6, h, k⟩; have P5 := hideE (P4.out.step h k); clear h k P4)
    | (go_at_call 19; refine (D6.out _ _ _ P5.out.d).mono ?_; rintro e w7 ⟨rfl, fp7, h, k⟩; have P6 := hideE (P5.out.step h k); clear h k P5)
    | (go_at_call 18; refine (D7.out _ _ _ P6.out.d).mono ?_; rintro e w8 ⟨rfl, fp8, h, k⟩; have P7 := hideE (P6.out.step h k); clear h k P6))
  go_upto_region 14 with (first
    | (go_at_call 13; refine (HC8.out _ _ _ P7.out.d).mono ?_; rintro e w9 ⟨rfl, fp9, h, k⟩; have P8 := hideE (P7.out.step h k); clear h k P7)
    | (go_at_call 15; refine (D9.out _ _ _ P8.out.d).mono ?_; rintro e wa ⟨rfl, fpa, h, k⟩; have P9 := hideE (P8.out.step h k); clear h k P8)
    | (go_at_call 11; refine (Da.out _ _ _ P9.out.d).mono ?_; rintro e wb ⟨rfl, fpb, h, k⟩; have Pa := hideE (P9.out.step h k); clear h k P9))
  refine gen_world (fun W => Fx Dag w g fL3 fpb W ∧ W.heap[wb.heap.size]? = some (.cells #[.int .i64 2, .int .u32 0, .int .i64 27, .int .i64 1, .int .i64 0] 33 (0, 0))) ⟨Pa.out.below HT ((Below.refl _ wb).alloc (Nat.le_refl _) _), tbox _ _ _ _ _ _⟩ ?_
  have hfr := Pa.out.free HT (Nat.le_refl _)
  clear Pa
  rintro W ⟨hp, htb⟩
  obtain ⟨t0, t1, t2, t3, t4⟩ := fiveT htb
  have HP := hideE hp
  clear hp htb
  go_wp2_with (go_at_call 10; refine (Db.out _ _ _ HP.out.d).mono ?_; rintro e w9 ⟨rfl, fp9, h, k⟩; have P8 := hideE (HP.out.step h k); clear h k HP)
  go_ret
  exact ⟨rfl, P8.out.low⟩
end Go.Proofs.Ythlefedljgmmfaa
