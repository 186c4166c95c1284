/-
  TermVars, as the row says it.
  The walk of TermVars.
  The walk of TermOnce.
  The walk of TermDoes.
  The walk of TermDeep.
  The walk of TermWords.
-/
import Derived.Test.YthlefedljgmmfaaRows
import Derived.WalkKit
import Derived.ProofKit
import Derived.OpenShut
import Derived.Carry
import Derived.ChangeMaps
import Derived.Test.YthlefedljgmmfaaZC1
import Derived.Test.YthlefedljgmmfaaZW0
import Derived.Test.YthlefedljgmmfaaZW5
namespace Go.Proofs.Ythlefedljgmmfaa
open Go.RowKit Go.Lib Tm
set_option linter.unusedSimpArgs false
set_option linter.unusedVariables false

theorem and16_T (n : Int) : bits .and .i64 n 65535 = n % 65536 := by
  have h15 : (BitVec.ofInt 64 65535).toNat = 2 ^ 16 - 1 := by decide
  have key : (BitVec.ofInt 64 n &&& BitVec.ofInt 64 65535).toNat = (n % ((2 ^ 64 : Nat) : Int)).toNat % 2 ^ 16 := by
    rw [BitVec.toNat_and, BitVec.toNat_ofInt, h15, Nat.and_two_pow_sub_one_eq_mod]
  show IntKind.i64.wrap ((BitVec.ofInt 64 n &&& BitVec.ofInt 64 65535).toNat : Nat) = n % 65536
  rw [key, IntKind.wrap_i64]
  omega
theorem ev_at (x : Nat → BitVec 32) {L : List Trm} {n : Nat} {t : Trm} (h : L[n]? = some t) : evalN x L (n : Int) = valN x L n ∧ varsN L (n : Int) = needN L n ∧ nodeE L (n : Int) = 0 := by
  obtain ⟨a, b, c⟩ := nodeE_yes (L := L) (d := n) (List.getElem?_eq_some_iff.1 h).1
  exact ⟨c x, b, a⟩
theorem ofD {Dag : World → Nat → List Trm → (Nat → Prop) → Prop} {w W : World} {g : Nat} {L : List Trm} {fp : Nat → Prop} {b : Nat} {o : Obj} (h : Fx Dag w g L fp W) (hb : b < w.heap.size) (e : w.heap[b]? = some o) : W.heap[b]? = some o := (h.low.block b hb).trans e
/-- What the calls of TermWords tell, in numbers. -/
structure Tw (v : BitVec 32) (x : Nat → BitVec 32) (k : Nat) (L1 L2 L3 : List Trm) (n1 n2 n3 y m : Nat) : Prop where
  o1 : OkT L1
  o2 : OkT L2
  o3 : OkT L3
  l3 : L3.length ≤ 3
  l2 : L2.length ≤ 2
  l1 : L1.length ≤ 1
  c1 : findT [] (constT v) = n1 ∧ addT [] (constT v) = L1
  c2 : regN L1 (k : Int) = n2 ∧ regE (k : Int) = 0 ∧ regL L1 (k : Int) = L2
  c3 : regN L2 0 = n3 ∧ regE 0 = 0 ∧ regL L2 0 = L3
  c4 : findT L3 (constT (BitVec.ofNat 32 0)) = n3 ∧ addT L3 (constT (BitVec.ofNat 32 0)) = L3
  e1 : evalN x L2 (n1 : Int) = v ∧ nodeE L2 (n1 : Int) = 0 ∧ varsN L2 (n1 : Int) = (BitVec.ofNat 32 0)
  e2 : (evalN x L2 (n2 : Int)).toNat = (x k).toNat ∧ nodeE L2 (n2 : Int) = 0 ∧ (varsN L2 (n2 : Int)).toNat = m
  y : (x k).toNat = y
  m : (2 : Int) ^ k % 4294967296 = (m : Int)
  b1 : n1 ≤ 3
  b2 : n2 ≤ 3
theorem tw_all (v : BitVec 32) (x : Nat → BitVec 32) (k : Nat) (h0 : 0 < k) (hk : k < 32) : ∃ L1 L2 L3 n1 n2 n3 y m, Tw v x k L1 L2 L3 n1 n2 n3 y m := by
  have hE : regE (k : Int) = 0 := by unfold regE; rw [if_neg (by omega)]
  have r0 : regT 0 = constT (BitVec.ofNat 32 0) := by unfold regT; rw [if_pos rfl]
  have h1 := add_at [] (constT v)
  have o1 := ok_nil.add (fine_const 0 v)
  have h2 := add_at (addT [] (constT v)) (regT (k : Int))
  have o2 := o1.add (fine_reg (addT [] (constT v)).length hE)
  have h12 := (add_old (L := addT [] (constT v)) (regT (k : Int)) (add_in [] (constT v))).trans h1
  have o3 := o2.add (fine_const (addT (addT [] (constT v)) (regT (k : Int))).length (BitVec.ofNat 32 0))
  have h3 := add_at (addT (addT [] (constT v)) (regT (k : Int))) (constT (BitVec.ofNat 32 0))
  have q1 := (add_len [] (constT v)).2
  have q2 := (add_len (addT [] (constT v)) (regT (k : Int))).2
  have q3 := (add_len (addT (addT [] (constT v)) (regT (k : Int))) (constT (BitVec.ofNat 32 0))).2
  simp only [List.length_nil] at q1
  obtain ⟨a1, a2, a3⟩ := ev_at x h12
  obtain ⟨b1, b2, b3⟩ := ev_at x h2
  have p1 := (List.getElem?_eq_some_iff.1 h1).1
  have p2 := (List.getElem?_eq_some_iff.1 h2).1
  refine ⟨_, _, _, _, _, _, _, _, o1, o2, o3, by omega, by omega, by omega, ⟨rfl, rfl⟩, ⟨?_, hE, ?_⟩, ⟨?_, rfl, ?_⟩, ⟨find_put o3.once h3, add_same (List.mem_of_getElem? h3)⟩, ⟨a1.trans (val_const x h12), a3, a2.trans (need_const h12)⟩, ⟨by rw [b1, val_reg x h0 hk h2], b3, by rw [b2, need_reg h0 hk h2]⟩, rfl, two_shl k hk, by omega, by omega⟩
  · unfold regN; rw [if_pos hE]
  · unfold regL; rw [if_pos hE]
  · unfold regN; rw [if_pos (show regE 0 = 0 from rfl), r0]
  · unfold regL; rw [if_pos (show regE 0 = 0 from rfl), r0]
set_option maxHeartbeats 8000000 in
set_option maxRecDepth 100000 in
theorem termWords_any {Dag : World → Nat → List Trm → (Nat → Prop) → Prop} (HT : TmAll Dag) (v : BitVec 32) (r : Int) (x : Nat → BitVec 32) (w : World) (hr : -9223372036854775808 ≤ r ∧ r ≤ 9223372036854775807) :
    Calls Try.prog 7 #[.int .u32 (v.toNat : Int), .int .i64 r, .agg (regsC x)] w fun e w' => e = .returned (.bool true) ∧ Below w.heap.size w w' := by
  obtain ⟨X, hX⟩ : ∃ X, regsC x = X := ⟨_, rfl⟩
  have hXs : X.size = 32 := by rw [← hX]; exact regs_size x
  have HB0 := hideE ((Below.refl _ w).alloc (Nat.le_refl _) (.cells X 39))
  have HXb := hideE (heap_alloc_new w (.cells X 39))
  have HNew := hideE (HT.new (w.alloc (.cells X 39)))
  simp only [ptrV] at HNew
  rw [hX]
  go_enter Try.func7, Try.ntmps7
  go_upto_region 4 with (first
    | (go_at_call 20; refine HNew.out.mono ?_; rintro e w1 ⟨g, fp, rfl, hd1, hlo1, hb1⟩; have P0 : Hid (Fx Dag (w.alloc (.cells X 39)) g [] fp w1) := ⟨hd1, hlo1, hb1⟩; clear hd1 hlo1 hb1))
  obtain ⟨d, hd, hd2⟩ : ∃ d : Nat, d < 65536 ∧ bits .and .i64 r 65535 = (d : Int) := ⟨(r % 65536).toNat, by omega, by rw [and16_T]; omega⟩
  have hd0 : (0 : Int) ≤ (d : Int) := by omega
  go_upto_region 5 with fail
  obtain ⟨k, hk, hk0, hk1⟩ : ∃ k : Nat, (1 + (d : Int) % 31) = (k : Int) ∧ 0 < k ∧ k < 32 := ⟨(1 + (d : Int) % 31).toNat, by omega, by omega, by omega⟩
  rw [hk]
  have ik0 : (0 : Int) ≤ (k : Int) := by omega
  have ik1 : (k : Int) < 32 := by omega
  obtain ⟨L1, L2, L3, n1, n2, n3, y, m, T⟩ := tw_all v x k hk0 hk1
  obtain ⟨o1, o2, o3, l3, l2, l1, ⟨c1, c1'⟩, ⟨c2, c2', c2''⟩, ⟨c3, c3', c3''⟩, ⟨c4, c4'⟩, ⟨e1, e1', e1''⟩, ⟨e2, e2', e2''⟩, hy, hm, b1, b2⟩ := T
  have hc := hX ▸ regs_get x hk1
  rw [hy] at hc e2
  have HC1 := hideE (fun W g fp (h : Dag W g [] fp) => HT.const v ok_nil (by decide) h)
  have HC2 := hideE (fun W g fp (h : Dag W g L1 fp) => HT.var (k : Int) (by omega) o1 (by omega) h)
  have HC3 := hideE (fun W g fp (h : Dag W g L2 fp) => HT.eval (n1 : Int) x (by omega) o2 (by omega) h)
  have HC4 := hideE (fun W g fp (h : Dag W g L2 fp) => HT.eval (n2 : Int) x (by omega) o2 (by omega) h)
  have HC5 := hideE (fun W g fp (h : Dag W g L2 fp) => HT.vars (n1 : Int) (by omega) o2 (by omega) h)
  have HC6 := hideE (fun W g fp (h : Dag W g L2 fp) => HT.vars (n2 : Int) (by omega) o2 (by omega) h)
  have HC7 := hideE (fun W g fp (h : Dag W g L2 fp) => HT.var 0 (by decide) o2 (by omega) h)
  have HC8 : Hid (∀ W g fp (h : Dag W g L3 fp), Calls Try.prog 17 #[.pointer (some ⟨g, 0, none⟩), .int .u32 0] W fun e w' => e = .returned (.int .i64 (findT L3 (constT (BitVec.ofNat 32 0)) : Int)) ∧ ∃ fp', Dag w' g (addT L3 (constT (BitVec.ofNat 32 0))) fp' ∧ Chg fp fp' W w') := (fun W g fp (h : Dag W g L3 fp) => HT.const (BitVec.ofNat 32 0) o3 (by omega) h)
  have HF := hideE (fun W => fixed_any10 HT W)
  simp only [ptrV, c1, c1', c2, c2', c2'', c3, c3', c3'', c4, c4', e1, e1', e1'', e2, e2', e2'', hX] at HC1 HC2 HC3 HC4 HC5 HC6 HC7 HC8
  have HM := hideE hm
  have HC5' : Hid (∀ W g fp (h : Dag W g L2 fp), Calls Try.prog 15 #[.pointer (some ⟨g, 0, none⟩), .int .i64 (n1 : Int)] W fun e w' => e = .returned (.tuple #[.int .u32 0, .int .i64 0]) ∧ ∃ fp', Dag w' g L2 fp' ∧ Chg fp fp' W w') := HC5
  clear hk c1 c1' c2 c2' c2'' c3 c3' c3'' c4 c4' e1 e1' e1'' e2 e2' e2'' hy o1 o2 o3 l1 l2 l3 HC5 hX hd2 hr
  go_upto_region 12 with (first
    | (go_at_call 17; refine (HC1.out _ _ _ P0.out.d).mono ?_; rintro e w2 ⟨rfl, fp2, h, k⟩; have P1 := hideE (P0.out.step h k); clear h k P0)
    | (go_at_call 18; refine (HC2.out _ _ _ P1.out.d).mono ?_; rintro e w3 ⟨rfl, fp3, h, k⟩; have P2 := hideE (P1.out.step h k); have hxb := ofD (P1.out.step h k) (by simp) HXb.out; clear h k P1)
    | (refine wpList_load_row rfl 39 _ rfl w.heap.size rfl _ _ _ _ hxb Try.underlying39 rfl (by rw [hXs]; kernel_rfl) ?_)
    | (go_at_call 13; refine (HC3.out _ _ _ P2.out.d).mono ?_; rintro e w4 ⟨rfl, fp4, h, k⟩; have P3 := hideE (P2.out.step h k); clear hxb; have hxb := ofD (P2.out.step h k) (by simp) HXb.out; clear h k P2)
    | (go_at_call 13; refine (HC4.out _ _ _ P3.out.d).mono ?_; rintro e w5 ⟨rfl, fp5, h, k⟩; have P4 := hideE (P3.out.step h k); clear hxb h k P3)
    | (go_at_call 15; refine (HC5'.out _ _ _ P4.out.d).mono ?_; rintro e w6 ⟨rfl, fp6, h, k⟩; have P5 := hideE (P4.out.step h k); clear h k P4)
    | (go_at_call 15; refine (HC6.out _ _ _ P5.out.d).mono ?_; rintro e w7 ⟨rfl, fp7, h, k⟩; have P6 := hideE (P5.out.step h k); clear h k P5)
    | (go_at_call 18; refine (HC7.out _ _ _ P6.out.d).mono ?_; rintro e w8 ⟨rfl, fp8, h, k⟩; have P7 := hideE (P6.out.step h k); clear h k P6))
  have hxb := ofD P7.out (by simp) HXb.out
  have cx : w8.cell? ⟨w.heap.size, k, none⟩ = some (.int .u32 (y : Int)) := by simp [World.cell?, hxb, hc]
  clear hxb hc
  go_wp2_with (first
    | (go_at_call 17; refine (HC8.out _ _ _ P7.out.d).mono ?_; rintro e w9 ⟨rfl, fp9, h, k⟩; have P8 := hideE (P7.out.step h k); clear h k P7)
    | (go_at_call 12; refine (HF.out _).mono ?_; rintro e wa ⟨rfl, h⟩; have P9 := hideE (P8.out.below HT h); clear h))
  go_ret
  exact ⟨rfl, HB0.out.trans (P9.out.low.mono HB0.out.size)⟩
end Go.Proofs.Ythlefedljgmmfaa
namespace Go.Proofs.Ythlefedljgmmfaa
open Go.RowKit Go.Lib Tm
set_option linter.unusedSimpArgs false
set_option linter.unusedVariables false

theorem Pr.fx {Dag : World → Nat → List Trm → (Nat → Prop) → Prop} {w W : World} {g g2 : Nat} {L L2 : List Trm} {fp fp2 : Nat → Prop} (h : Pr Dag w g L fp g2 L2 fp2 W) : Fx Dag w g L fp W := ⟨h.d, h.lo, h.low⟩
/-- What a reckoning made anew comes to. -/
structure Td (x : Nat → BitVec 32) (L : List Trm) (op : Int) (a b : Int) (L' : List Trm) (n A B V P Q M : Nat) : Prop where
  ok : OkT L'
  len : L'.length ≤ 61
  nl : n < 61
  c : opN L op a b = n ∧ opL L op a b = L'
  ea : (evalN x L' a).toNat = A ∧ nodeE L' a = 0 ∧ (varsN L' a).toNat = P
  eb : (evalN x L' b).toNat = B ∧ nodeE L' b = 0 ∧ (varsN L' b).toNat = Q
  en : (evalN x L' (n : Int)).toNat = V ∧ nodeE L' (n : Int) = 0 ∧ (varsN L' (n : Int)).toNat = M
  run : ∀ W, Calls Try.prog 21 #[.int .i64 op, .int .u32 (A : Int), .int .u32 (B : Int)] W fun e w' => e = .returned (.tuple #[.int .u32 (V : Int), .int .i64 0]) ∧ Below W.heap.size W w'
  or : bits .or .u32 (P : Int) (Q : Int) = (M : Int)
theorem td_all (x : Nat → BitVec 32) {L : List Trm} (hok : OkT L) (hl : L.length ≤ 60) {op a b : Int} (h : opE L op a b = 0) : ∃ L' n A B V P Q M, Td x L op a b L' n A B V P Q M := by
  obtain ⟨⟨i, j, rfl, rfl, hi, hj⟩, h1, h2⟩ := op_parts h
  have hok' := hok.add (fine_op h)
  have hat := add_at L (opT op i j)
  have hlen := (add_len L (opT op i j)).2
  have hin := add_in L (opT op i j)
  have ho := hok.fine
  have hle := (add_len L (opT op i j)).1
  have hai := List.getElem?_eq_getElem (l := addT L (opT op i j)) (i := i) (by omega)
  have haj := List.getElem?_eq_getElem (l := addT L (opT op i j)) (i := j) (by omega)
  obtain ⟨a1, a2, a3⟩ := ev_at x hai
  obtain ⟨b1, b2, b3⟩ := ev_at x haj
  obtain ⟨c1, c2, c3⟩ := ev_at x hat
  have hfine := hok'.fine _ _ hat
  have hlt : i < findT L (opT op i j) ∧ j < findT L (opT op i j) := by
    rcases hfine with ⟨v, e⟩ | ⟨r, h0, hr, e⟩ | ⟨op', i', j', _, _, hi', hj', e⟩
    · have := congrArg Trm.kind e; exact absurd this (by show ¬ ((2 : Int) = 0); decide)
    · rw [reg_nat h0 hr] at e; have := congrArg Trm.kind e; exact absurd this (by show ¬ ((2 : Int) = 1); decide)
    · have e1 := congrArg Trm.a e
      have e2 := congrArg Trm.b e
      have e1' : (i : Int) = (i' : Int) := e1
      have e2' : (j : Int) = (j' : Int) := e2
      omega
  refine ⟨_, _, _, _, _, _, _, _, hok', by omega, by omega, ⟨?_, ?_⟩, ⟨rfl, a3, rfl⟩, ⟨rfl, b3, rfl⟩, ⟨rfl, c3, rfl⟩, fun W => ?_, ?_⟩
  · unfold opN; rw [if_pos h]
  · unfold opL; rw [if_pos h]
  · have he : Wd.err op = 0 := by unfold Wd.err Wd.known; rw [decide_eq_true ⟨h1, h2⟩]; rfl
    have := rdo_any op (evalN x (addT L (opT op i j)) (i : Int)) (evalN x (addT L (opT op i j)) (j : Int)) W
    rw [he] at this
    rw [c1, val_op x hat hlt.1 hlt.2, ← a1, ← b1]
    exact this
  · rw [c2, need_op hat hlt.1 hlt.2, ← a2, ← b2]; exact Wd.or_ _ _
set_option maxHeartbeats 8000000 in
set_option maxRecDepth 100000 in
theorem termDeep_any {Dag : World → Nat → List Trm → (Nat → Prop) → Prop} (HT : TmAll Dag) (p : Option Addr) (c : Nat) (s : List Opc) (o : Opc) (x : Nat → BitVec 32) (w : World) (hS : SlO w (.slice p s.length c) s) (ho : ∀ o ∈ s, OkO o) (hl : s.length ≤ 9223372036854775807) (hoo : OkO o) :
    Calls Try.prog 8 #[.slice p s.length c, opcV o, .agg (regsC x)] w fun e w' => e = .returned (.bool true) ∧ Below w.heap.size w w' := by
  have hL := run_len s 60
  have hok := (run_ok (s.take 60)).1
  have HLaid := hideE (fun W hW => laid_any HT p c s W hW ho hl)
  obtain ⟨L, hLL⟩ : ∃ L, runL (s.take 60) = L := ⟨_, rfl⟩
  rw [hLL] at hL hok HLaid
  obtain ⟨sn, hsn⟩ : ∃ k, s.length = k := ⟨_, rfl⟩
  rw [hsn] at HLaid hS hl ⊢
  obtain ⟨kk, kv, ko, ka, kb⟩ := o
  obtain ⟨_, hko, hka, hkb⟩ := hoo
  obtain ⟨X, hX⟩ : ∃ X, regsC x = X := ⟨_, rfl⟩
  have hXs : X.size = 32 := by rw [← hX]; exact regs_size x
  have HB0 := hideE (((Below.refl _ w).alloc (Nat.le_refl _) (.cells #[.int .i64 kk, .int .u32 (kv.toNat : Int), .int .i64 ko, .int .i64 ka, .int .i64 kb] 51)).alloc (by rw [World.size_alloc]; omega) (.cells X 39))
  have HOb := hideE (keptN ((Below.refl _ (w.alloc (.cells #[.int .i64 kk, .int .u32 (kv.toNat : Int), .int .i64 ko, .int .i64 ka, .int .i64 kb] 51))).alloc (Nat.le_refl _) (.cells X 39)) (obox w (.int .i64 kk) (.int .u32 (kv.toNat : Int)) (.int .i64 ko) (.int .i64 ka) (.int .i64 kb)))
  have hxb0 := heap_alloc_new (w.alloc (.cells #[.int .i64 kk, .int .u32 (kv.toNat : Int), .int .i64 ko, .int .i64 ka, .int .i64 kb] 51)) (.cells X 39)
  rw [World.size_alloc] at hxb0
  have HXb := hideE hxb0
  obtain ⟨W0, hW0⟩ : ∃ W0, (w.alloc (.cells #[.int .i64 kk, .int .u32 (kv.toNat : Int), .int .i64 ko, .int .i64 ka, .int .i64 kb] 51)).alloc (.cells X 39) = W0 := ⟨_, rfl⟩
  rw [hW0] at HB0 HOb HXb
  have hz0 : w.heap.size + 2 = W0.heap.size := by rw [← hW0, World.size_alloc, World.size_alloc]
  have i0 : w.heap.size < W0.heap.size := by omega
  have i1 : w.heap.size + 1 < W0.heap.size := by omega
  have HI0 := hideE i0
  have HI1 := hideE i1
  have HSl := hideE (HLaid.out _ (hS.below HB0.out))
  have HF := hideE (fun W => fixed_any10 HT W)
  simp only [ptrV] at HSl
  simp only [opcV]
  rw [hX]
  clear HLaid hS ho hl hLL hsn hxb0 hz0 i0 i1
  by_cases hE : opE L ko ka kb = 0
  · obtain ⟨L', n, A, B, V, P, Q, M, T⟩ := td_all x hok hL hE
    obtain ⟨ok, hlen, hnl, ⟨c1, c2⟩, ⟨a1, a2, a3⟩, ⟨b1, b2, b3⟩, ⟨e1, e2, e3⟩, hrun, hor⟩ := T
    have HC0 := hideE (fun W g fp (h : Dag W g L fp) => HT.op ko ka kb hko hka hkb hok (by omega) h)
    have HC1 := hideE (fun W g fp (h : Dag W g L' fp) => HT.eval ka x hka ok (by omega) h)
    have HC2 := hideE (fun W g fp (h : Dag W g L' fp) => HT.eval kb x hkb ok (by omega) h)
    have HC3 := hideE (fun W g fp (h : Dag W g L' fp) => HT.eval (n : Int) x (by omega) ok (by omega) h)
    have HC4 := hideE (fun W g fp (h : Dag W g L' fp) => HT.vars ka hka ok (by omega) h)
    have HC5 := hideE (fun W g fp (h : Dag W g L' fp) => HT.vars kb hkb ok (by omega) h)
    have HC6 := hideE (fun W g fp (h : Dag W g L' fp) => HT.vars (n : Int) (by omega) ok (by omega) h)
    have HR := hideE hrun
    simp only [ptrV, hE, c1, c2, a1, a2, a3, b1, b2, b3, e1, e2, e3, hX] at HC0 HC1 HC2 HC3 HC4 HC5 HC6
    clear hE c1 c2 a1 a2 a3 b1 b2 b3 e1 e2 e3 hX hrun ok hlen hnl hok hL hko hka hkb
    go_enter Try.func8, Try.ntmps8
    go_wp2_with (first
      | (go_at_call 9; refine HSl.out.mono ?_; rintro e w1 ⟨g, g2, rfl, fp, fp2, hp⟩; have P0 := hideE hp.fx; obtain ⟨t0, t1, t2, t3, t4⟩ := ocells (ofD hp.fx HI0.out HOb.out); clear hp)
      | (refine wpList_load_row rfl 39 _ rfl (w.heap.size + 1) rfl _ _ _ _ hxb Try.underlying39 rfl (by rw [hXs]; kernel_rfl) ?_)
      | (go_at_call 19; refine (HC0.out _ _ _ P0.out.d).mono ?_; rintro e w2 ⟨rfl, fp2', h, k⟩; have P1 := hideE (P0.out.step h k); clear t0 t1 t2 t3 t4; obtain ⟨t0, t1, t2, t3, t4⟩ := ocells (ofD (P0.out.step h k) HI0.out HOb.out); have hxb := ofD (P0.out.step h k) HI1.out HXb.out; clear h k P0)
      | (go_at_call 13; refine (HC1.out _ _ _ P1.out.d).mono ?_; rintro e w3 ⟨rfl, fp3, h, k⟩; have P2 := hideE (P1.out.step h k); clear t0 t1 t2 t3 t4 hxb; obtain ⟨t0, t1, t2, t3, t4⟩ := ocells (ofD (P1.out.step h k) HI0.out HOb.out); have hxb := ofD (P1.out.step h k) HI1.out HXb.out; clear h k P1)
      | (go_at_call 13; refine (HC2.out _ _ _ P2.out.d).mono ?_; rintro e w4 ⟨rfl, fp4, h, k⟩; have P3 := hideE (P2.out.step h k); clear t0 t1 t2 t3 t4 hxb; obtain ⟨t0, t1, t2, t3, t4⟩ := ocells (ofD (P2.out.step h k) HI0.out HOb.out); have hxb := ofD (P2.out.step h k) HI1.out HXb.out; clear h k P2)
      | (go_at_call 13; refine (HC3.out _ _ _ P3.out.d).mono ?_; rintro e w5 ⟨rfl, fp5, h, k⟩; have P4 := hideE (P3.out.step h k); clear t0 t1 t2 t3 t4 hxb; obtain ⟨t0, t1, t2, t3, t4⟩ := ocells (ofD (P3.out.step h k) HI0.out HOb.out); clear h k P3)
      | (go_at_call 21; refine (HR.out _).mono ?_; rintro e w6 ⟨rfl, h⟩; have P5 := hideE (P4.out.below HT h); clear t0 t1 t2 t3 t4; obtain ⟨t0, t1, t2, t3, t4⟩ := ocells (ofD (P4.out.below HT h) HI0.out HOb.out); clear h P4)
      | (go_at_call 15; refine (HC4.out _ _ _ P5.out.d).mono ?_; rintro e w7 ⟨rfl, fp7, h, k⟩; have P6 := hideE (P5.out.step h k); clear t0 t1 t2 t3 t4; obtain ⟨t0, t1, t2, t3, t4⟩ := ocells (ofD (P5.out.step h k) HI0.out HOb.out); clear h k P5)
      | (go_at_call 15; refine (HC5.out _ _ _ P6.out.d).mono ?_; rintro e w8 ⟨rfl, fp8, h, k⟩; have P7 := hideE (P6.out.step h k); clear t0 t1 t2 t3 t4; clear h k P6)
      | (go_at_call 15; refine (HC6.out _ _ _ P7.out.d).mono ?_; rintro e w9 ⟨rfl, fp9, h, k⟩; have P8 := hideE (P7.out.step h k); clear h k P7)
      | (go_at_call 12; refine (HF.out _).mono ?_; rintro e wa ⟨rfl, h⟩; have P9 := hideE (P8.out.below HT h); clear h))
    go_ret
    exact ⟨rfl, HB0.out.trans (P9.out.low.mono HB0.out.size)⟩
  · have c1 : opN L ko ka kb = 0 := by unfold opN; rw [if_neg hE]
    have HC0 := hideE (fun W g fp (h : Dag W g L fp) => HT.op ko ka kb hko hka hkb hok (by omega) h)
    obtain ⟨y, hy⟩ : ∃ y, opE L ko ka kb = y := ⟨_, rfl⟩
    simp only [ptrV, c1, hy] at HC0
    have q1 : ((y : Int) != 0) = true := bne_iff_ne.2 (by omega)
    have q2 : ((y : Int) == 0) = false := beq_eq_false_iff_ne.2 (by omega)
    clear hE c1 hy hok hL hko hka hkb hX
    go_enter Try.func8, Try.ntmps8
    go_wp2_with (first
      | (go_at_call 9; refine HSl.out.mono ?_; rintro e w1 ⟨g, g2, rfl, fp, fp2, hp⟩; have P0 := hideE hp.fx; obtain ⟨t0, t1, t2, t3, t4⟩ := ocells (ofD hp.fx HI0.out HOb.out); clear hp)
      | (go_at_call 19; refine (HC0.out _ _ _ P0.out.d).mono ?_; rintro e w2 ⟨rfl, fp2', h, k⟩; have P1 := hideE (P0.out.step h k); clear h k P0)
      | (go_at_call 12; refine (HF.out _).mono ?_; rintro e wa ⟨rfl, h⟩; have P9 := hideE (P1.out.below HT h); clear h))
    go_ret
    exact ⟨rfl, HB0.out.trans (P9.out.low.mono HB0.out.size)⟩
end Go.Proofs.Ythlefedljgmmfaa
namespace Go.Proofs.Ythlefedljgmmfaa
open Go.RowKit Go.Lib Tm
set_option linter.unusedSimpArgs false
set_option linter.unusedVariables false

/-- Side by side, the document's slice in sight. -/
structure Sc (Dag : World → Nat → List Trm → (Nat → Prop) → Prop) (w : World) (g : Nat) (L : List Trm) (g2 : Nat) (fp2 : Nat → Prop) (pv : Option Addr) (n cv : Nat) (W : World) : Prop where
  pr : ∃ fp, Pr Dag w g L fp g2 L fp2 W
  bx : W.heap[g2]? = some (.cells #[.slice pv n cv] 30 (0, 0))
  row : W.ownsRow 0 33 5 (.slice pv n cv) n (trmsC L)
  iff : ∀ k, fp2 k ↔ k = g2 ∨ (Value.slice pv n cv).ownBlock = some k
section
variable {Dag : World → Nat → List Trm → (Nat → Prop) → Prop} {w W W' : World} {g g2 : Nat} {L : List Trm} {fp fp' fp2 : Nat → Prop} {pv : Option Addr} {n cv : Nat}
theorem Sc.keep (h : Sc Dag w g L g2 fp2 pv n cv W) (hk : ∀ k, fp2 k → W'.heap[k]? = W.heap[k]?) (hp : ∃ fp, Pr Dag w g L fp g2 L fp2 W') : Sc Dag w g L g2 fp2 pv n cv W' := by
  refine ⟨hp, (hk g2 ((h.iff g2).2 (.inl rfl))).trans h.bx, ⟨h.row.1, ?_⟩, h.iff⟩
  rcases h.row.2 with hn | ⟨g', cap, cur, e, hb, hg, rest⟩
  · exact .inl hn
  · exact .inr ⟨g', cap, cur, e, hb, (hk g' ((h.iff g').2 (.inr (by rw [e]; rfl)))).trans hg, rest⟩
theorem Sc.left (HT : TmAll Dag) (h : Sc Dag w g L g2 fp2 pv n cv W) (hp : Pr Dag w g L fp g2 L fp2 W) (hd : Dag W' g L fp') (hc : Chg fp fp' W W') : Sc Dag w g L g2 fp2 pv n cv W' :=
  h.keep (fun k hk => hc.block k (hp.k.lt k hk) (fun c => hp.apart k c hk)) ⟨_, hp.left HT hd hc⟩
theorem Sc.below (HT : TmAll Dag) (h : Sc Dag w g L g2 fp2 pv n cv W) (hb : Below W.heap.size W W') : Sc Dag w g L g2 fp2 pv n cv W' := by
  obtain ⟨fp, hp⟩ := h.pr
  exact h.keep (fun k hk => hb.block k (hp.k.lt k hk)) ⟨_, hp.below HT hb⟩
theorem Sc.cell (h : Sc Dag w g L g2 fp2 pv n cv W) : W.cell? ⟨g2, 0, none⟩ = some (.slice pv n cv) := by simp [World.cell?, h.bx]
theorem Sc.start (hp : Pr Dag w g L fp g2 L fp2 W) : ∃ pv cv, Sc Dag w g L g2 fp2 pv L.length cv W := by
  obtain ⟨v, h1, h2, h3⟩ := hp.k
  obtain ⟨pv, cv, rfl⟩ := own_slice' h2
  exact ⟨pv, cv, ⟨_, hp⟩, h1, h2, h3⟩
/-- What the walk reads while the order is drawn. -/
def HeldS (Dag : World → Nat → List Trm → (Nat → Prop) → Prop) (w : World) (g : Nat) (L : List Trm) (g2 : Nat) (fp2 : Nat → Prop) (pv : Option Addr) (n cv : Nat) (W : World) : Prop := W.cell? ⟨g2, 0, none⟩ = some (.slice pv n cv) ∧ Sc Dag w g L g2 fp2 pv n cv W
theorem HeldS.drew (HT : TmAll Dag) (h : HeldS Dag w g L g2 fp2 pv n cv W) : HeldS Dag w g L g2 fp2 pv n cv W.drew := ⟨h.1, h.2.below HT (Below.refl _ W).drew⟩
end
theorem node_at {L : List Trm} {k : Nat} {t : Trm} (h : L[k]? = some t) : nodeT L (k : Int) = t ∧ nodeE L (k : Int) = 0 := by
  have hk := (List.getElem?_eq_some_iff.1 h).1
  have e : hasN L (k : Int) = true := by unfold hasN; exact decide_eq_true (by omega)
  unfold nodeT nodeE
  rw [e, Int.toNat_natCast, List.getD_eq_getElem?_getD, h]
  exact ⟨rfl, rfl⟩
theorem node_none {L : List Trm} {n : Int} (h : n < 0 ∨ (L.length : Int) ≤ n) : nodeT L n = noT ∧ nodeE L n = 100 := by
  have e : hasN L n = false := by unfold hasN; exact decide_eq_false (by omega)
  unfold nodeT nodeE
  rw [e]; exact ⟨rfl, rfl⟩
set_option maxHeartbeats 8000000 in
set_option maxRecDepth 100000 in
theorem termDoes_any {Dag : World → Nat → List Trm → (Nat → Prop) → Prop} (HT : TmAll Dag) (p : Option Addr) (c : Nat) (s : List Opc) (w : World) (hS : SlO w (.slice p s.length c) s) (ho : ∀ o ∈ s, OkO o) (hl : s.length ≤ 9223372036854775807) :
    Calls Try.prog 3 #[.slice p s.length c] w fun e w' => e = .returned (.bool true) ∧ Below w.heap.size w w' := by
  have hL := run_len s 60
  have hok := (run_ok (s.take 60)).1
  have HLaid := hideE (laid_any HT p c s w hS ho hl)
  obtain ⟨L, hLL⟩ : ∃ L, runL (s.take 60) = L := ⟨_, rfl⟩
  rw [hLL] at hL hok HLaid
  obtain ⟨sn, hsn⟩ : ∃ k, s.length = k := ⟨_, rfl⟩
  rw [hsn] at HLaid ⊢
  have HF := hideE (fun W => fixed_any10 HT W)
  obtain ⟨n, hn⟩ : ∃ n, L.length = n := ⟨_, rfl⟩
  have HLen := hideE (fun W g fp (h : Dag W g L fp) => HT.len hok (by omega) h)
  have HNode := hideE (fun (k : Int) (hk : In64 k) W g fp (h : Dag W g L fp) => HT.node k hk hok (by omega) h)
  rw [hn] at HLen hL
  simp only [ptrV] at HLaid HLen HNode
  have HN := hideE hn
  clear hS ho hl hLL hsn hok hn
  go_enter Try.func3, Try.ntmps3
  go_upto_region 2 with (go_at_call 9; refine HLaid.out.mono ?_; rintro e w1 ⟨g, g2, rfl, fp, fp2, hp⟩)
  obtain ⟨pv, cv, hsc⟩ := Sc.start hp
  rw [HN.out] at hsc
  have c0 := hsc.cell
  have HS0 : Hid (HeldS Dag w g L g2 fp2 pv n cv w1) := ⟨c0, hsc⟩
  clear hp hsc
  go_wp2_with fail
  go_region_held3 (fun W => W.cell? ⟨g2, 0, none⟩ = some (.slice pv n cv) ∧ Sc Dag w g L g2 fp2 pv n cv W)
    ((show HeldS Dag w g L g2 fp2 pv n cv _; with_reducible (repeat (first | assumption | exact HS0.out | refine HeldS.drew HT ?_))))
    (first
      | (go_at_call 10; obtain ⟨fpa, hpa⟩ := (show HeldS Dag w g L g2 fp2 pv n cv _ by assumption).2.pr; refine (HLen.out _ _ _ hpa.d).mono ?_; rintro e w5 ⟨rfl, fp5, hd5, hc5⟩; have hS : HeldS Dag w g L g2 fp2 pv n cv w5 := ⟨((show HeldS Dag w g L g2 fp2 pv n cv _ by assumption).2.left HT hpa hd5 hc5).cell, (show HeldS Dag w g L g2 fp2 pv n cv _ by assumption).2.left HT hpa hd5 hc5⟩))
  have hsc := hS.2
  refine gen_world (fun W => Sc Dag w g L g2 fp2 pv n cv W) hsc ?_
  clear hsc hS HS0 c0
  intro w6 hsc
  have c0 := hsc.cell
  go_wp2_with fail
  go_loopg [6] n (fun q j W => ∃ k : Nat, k + q = n ∧ j = .int .i64 (k : Int) ∧ Sc Dag w g L g2 fp2 pv n cv W)
  case atStart => exact ⟨0, by omega, rfl, hsc⟩
  case round =>
    clear hsc c0
    obtain ⟨k, hkq, rfl, hsc⟩ := hrel
    have c0 := hsc.cell
    have HSc := hideE hsc
    clear hsc
    cases gk with
    | zero =>
      obtain rfl : k = n := by omega
      have hk : ¬ ((k : Int) < (k : Int)) := by omega
      obtain ⟨n1, n2⟩ := node_none (L := L) (n := (k : Int)) (.inr (by rw [HN.out]; omega))
      obtain ⟨m1, m2⟩ := node_none (L := L) (n := -1) (.inl (by decide))
      have H1 := hideE (fun W g fp (h : Dag W g L fp) => HNode.out (k : Int) ⟨by omega, by omega⟩ W g fp h)
      have H2 := hideE (fun W g fp (h : Dag W g L fp) => HNode.out (-1) ⟨by decide, by decide⟩ W g fp h)
      simp only [n1, n2, m1, m2, termC, noT] at H1 H2
      obtain ⟨fpa, hpa⟩ := HSc.out.pr
      have HPa := hideE hpa
      clear n1 n2 m1 m2 hpa
      go_upto_region 11 with (go_at_call 11; refine (H1.out _ _ _ HPa.out.d).mono ?_; rintro e w7 ⟨rfl, fp7, h, kc⟩; have P1 := hideE (HPa.out.left HT h kc); clear h kc HPa)
      refine gen_world (fun W => Pr Dag w g L fp7 g2 L fp2 W) (P1.out.below HT ((Below.refl _ w7).alloc (Nat.le_refl _) _)) ?_
      clear P1 c0 HSc
      intro w8 P2
      have HP2 := hideE P2
      clear P2
      go_upto_region 12 with (go_at_call 11; refine (H2.out _ _ _ HP2.out.d).mono ?_; rintro e w9 ⟨rfl, fp9, h, kc⟩; have P3 := hideE (HP2.out.left HT h kc); clear h kc HP2)
      refine gen_world (fun W => Pr Dag w g L fp9 g2 L fp2 W) (P3.out.below HT ((Below.refl _ w9).alloc (Nat.le_refl _) _)) ?_
      clear P3
      intro wa P4
      have HP4 := hideE P4
      clear P4
      go_wp2_with (go_at_call 12; refine (HF.out _).mono ?_; rintro e wb ⟨rfl, h⟩; have P9 := hideE (HP4.out.below HT h); clear h)
      go_ret
      exact ⟨rfl, P9.out.low⟩
    | succ q =>
      have hk : (k : Int) < (n : Int) := by omega
      have hk0 : (0 : Int) ≤ (k : Int) := by omega
      have hwk : IntKind.i64.wrap ((k : Int) + 1) = (k : Int) + 1 := wrE (by omega) (by omega)
      obtain ⟨t, ht⟩ : ∃ t, L[k]? = some t := ⟨L[k]'(by rw [HN.out]; omega), List.getElem?_eq_getElem (by rw [HN.out]; omega)⟩
      obtain ⟨n1, n2⟩ := node_at ht
      have H1 := hideE (fun W g fp (h : Dag W g L fp) => HNode.out (k : Int) ⟨by omega, by omega⟩ W g fp h)
      obtain ⟨sk, sv, sp, sa, sb⟩ := t
      simp only [n1, n2, termC] at H1
      obtain ⟨gs, rfl⟩ := own_some HSc.out.row (by omega)
      have HTt := hideE ht
      obtain ⟨fpa, hpa⟩ := HSc.out.pr
      have HPa := hideE hpa
      clear n1 n2 hpa ht
      go_upto_region 8 with (go_at_call 11; refine (H1.out _ _ _ HPa.out.d).mono ?_; rintro e w7 ⟨rfl, fp7, h, kc⟩; have S1 := hideE (HSc.out.left HT HPa.out h kc); clear h kc HPa)
      have hb1 := (Below.refl _ w7).alloc (Nat.le_refl _) (.cells #[.int .i64 sk, .int .u32 (sv.toNat : Int), .int .i64 sp, .int .i64 sa, .int .i64 sb] 33)
      refine gen_world (fun W => Sc Dag w g L g2 fp2 (some ⟨gs, 0, none⟩) n cv W ∧ W.heap[w7.heap.size]? = some (.cells #[.int .i64 sk, .int .u32 (sv.toNat : Int), .int .i64 sp, .int .i64 sa, .int .i64 sb] 33 (0, 0))) ⟨S1.out.below HT hb1, tbox _ _ _ _ _ _⟩ ?_
      clear hb1 S1 c0
      rintro W ⟨hsc, htb⟩
      obtain ⟨t0, t1, t2, t3, t4⟩ := fiveT htb
      have c0 := hsc.cell
      have e := fun j (hj : j < 5) => (hsc.row.cellAt (k * 5 + j) (by omega)).trans (trmsC_get L HTt.out hj)
      have e0 := e 0 (by decide)
      have e1 := e 1 (by decide)
      have e2 := e 2 (by decide)
      have e3 := e 3 (by decide)
      have e4 := e 4 (by decide)
      simp only [Nat.add_zero, trmC, List.getElem?_cons_zero, List.getElem?_cons_succ] at e0 e1 e2 e3 e4
      have HS2 := hideE hsc
      clear hsc htb e
      go_wp2_with fail
      go_quiet (fail)
      go_wp2_with fail
      go_roundg q
      case measure => omega
      case rel => exact ⟨k + 1, by omega, by simp, HS2.out.below HT (drew_low W _ W.heap.size)⟩
end Go.Proofs.Ythlefedljgmmfaa
namespace Go.Proofs.Ythlefedljgmmfaa
open Go.RowKit Go.Lib Tm
set_option linter.unusedSimpArgs false
set_option linter.unusedVariables false

theorem regE_ok {r : Nat} (h : r < 32) : regE (r : Int) = 0 := by unfold regE; rw [if_neg (by omega)]
theorem opE_ok {L : List Trm} {op : Int} {a b k : Nat} (hk : k < L.length) (ha : a < k) (hb : b < k) (h1 : 27 ≤ op) (h2 : op ≤ 44) : opE L op (a : Int) (b : Int) = 0 := by unfold opE; rw [if_neg (by omega), if_neg (by omega)]
set_option maxHeartbeats 8000000 in
set_option maxRecDepth 100000 in
theorem termOnce_any {Dag : World → Nat → List Trm → (Nat → Prop) → Prop} (HT : TmAll Dag) (p : Option Addr) (c : Nat) (s : List Opc) (w : World) (hS : SlO w (.slice p s.length c) s) (ho : ∀ o ∈ s, OkO o) (hl : s.length ≤ 9223372036854775807) :
    Calls Try.prog 5 #[.slice p s.length c] w fun e w' => e = .returned (.bool true) ∧ Below w.heap.size w w' := by
  have hL := run_len s 60
  have hok := (run_ok (s.take 60)).1
  have HLaid := hideE (laid_any HT p c s w hS ho hl)
  obtain ⟨L, hLL⟩ : ∃ L, runL (s.take 60) = L := ⟨_, rfl⟩
  rw [hLL] at hL hok HLaid
  obtain ⟨sn, hsn⟩ : ∃ k, s.length = k := ⟨_, rfl⟩
  rw [hsn] at HLaid ⊢
  have HF := hideE (fun W => fixed_any10 HT W)
  obtain ⟨n, hn⟩ : ∃ n, L.length = n := ⟨_, rfl⟩
  have HLen := hideE (fun W g fp (h : Dag W g L fp) => HT.len hok (by omega) h)
  have HNode := hideE (fun (k : Int) (hk : In64 k) W g fp (h : Dag W g L fp) => HT.node k hk hok (by omega) h)
  have HConst := hideE (fun v W g fp (h : Dag W g L fp) => HT.const v hok (by omega) h)
  have HVar := hideE (fun (r : Int) (hr : In64 r) W g fp (h : Dag W g L fp) => HT.var r hr hok (by omega) h)
  have HOp := hideE (fun (o a b : Int) (ho : In64 o) (ha : In64 a) (hb : In64 b) W g fp (h : Dag W g L fp) => HT.op o a b ho ha hb hok (by omega) h)
  rw [hn] at HLen hL
  simp only [ptrV] at HLaid HLen HNode HConst HVar HOp
  have HN := hideE hn
  have HOk := hideE hok
  clear hS ho hl hLL hsn hok hn
  go_enter Try.func5, Try.ntmps5
  go_upto_region 6 with (first
    | (go_at_call 9; refine HLaid.out.mono ?_; rintro e w1 ⟨g, g2, rfl, fp, fp2, hp⟩; have P0 := hideE hp.fx; clear hp)
    | (go_at_call 10; refine (HLen.out _ _ _ P0.out.d).mono ?_; rintro e w2 ⟨rfl, fp3, h, kc⟩; have P1 := hideE (P0.out.step h kc); clear h kc P0))
  go_loopg [7] n (fun q j W => ∃ (k : Nat) (fp : Nat → Prop), k + q = n ∧ j = .int .i64 (k : Int) ∧ Fx Dag w g L fp W)
  case atStart => exact ⟨0, fp3, by omega, rfl, P1.out⟩
  case round =>
    clear P1
    obtain ⟨k, fp4, hkq, rfl, hfx⟩ := hrel
    have HFx := hideE hfx
    clear hfx
    cases gk with
    | zero =>
      obtain rfl : k = n := by omega
      have hk : ¬ ((k : Int) < (k : Int)) := by omega
      go_wp2_with (first
        | (go_at_call 10; refine (HLen.out _ _ _ HFx.out.d).mono ?_; rintro e w2 ⟨rfl, fp5, h, kc⟩; have P1 := hideE (HFx.out.step h kc); clear h kc)
        | (go_at_call 12; refine (HF.out _).mono ?_; rintro e w9 ⟨rfl, h⟩; have P9 := hideE (P1.out.below HT h); clear h))
      go_ret
      exact ⟨rfl, P9.out.low⟩
    | succ q =>
      have hk : (k : Int) < (n : Int) := by omega
      have hk0 : (0 : Int) ≤ (k : Int) := by omega
      have hwk : IntKind.i64.wrap ((k : Int) + 1) = (k : Int) + 1 := wrE (by omega) (by omega)
      have hkl : k < L.length := by rw [HN.out]; omega
      obtain ⟨t, ht⟩ : ∃ t, L[k]? = some t := ⟨L[k]'hkl, List.getElem?_eq_getElem hkl⟩
      obtain ⟨n1, n2⟩ := node_at ht
      have H1 := hideE (fun W g fp (h : Dag W g L fp) => HNode.out (k : Int) ⟨by omega, by omega⟩ W g fp h)
      have hput := find_put HOk.out.once ht
      have hadd := add_same (List.mem_of_getElem? ht)
      have hfine := HOk.out.fine k _ ht
      obtain ⟨sk, sv, sp, sa, sb⟩ := t
      simp only [n1, n2, termC] at H1
      have HPut := hideE hput
      have HAdd := hideE hadd
      have HFine := hideE hfine
      have HKl := hideE hkl
      clear n1 n2 ht hput hadd hfine hkl
      go_upto_region 9 with (go_at_call 11; refine (H1.out _ _ _ HFx.out.d).mono ?_; rintro e w7 ⟨rfl, fp7, h, kc⟩; have S1 := hideE (HFx.out.step h kc); clear h kc HFx)
      have hb1 := (Below.refl _ w7).alloc (Nat.le_refl _) (.cells #[.int .i64 sk, .int .u32 (sv.toNat : Int), .int .i64 sp, .int .i64 sa, .int .i64 sb] 33)
      have hfr := S1.out.free HT (Nat.le_refl _)
      refine gen_world (fun W => Fx Dag w g L fp7 W ∧ W.heap[w7.heap.size]? = some (.cells #[.int .i64 sk, .int .u32 (sv.toNat : Int), .int .i64 sp, .int .i64 sa, .int .i64 sb] 33 (0, 0))) ⟨S1.out.below HT hb1, tbox _ _ _ _ _ _⟩ ?_
      clear hb1 S1
      rintro W ⟨hfx, htb⟩
      obtain ⟨t0, t1, t2, t3, t4⟩ := fiveT htb
      have HFx := hideE hfx
      have HTb := hideE htb
      have HFr := hideE hfr
      clear hfx htb hfr
      rcases HFine.out with ⟨v, e⟩ | ⟨r, h0, hr, e⟩ | ⟨op, a, b, h1, h2, ha, hb, e⟩
      · have HC := hideE (HConst.out v _ _ _ HFx.out.d)
        rw [← e, HPut.out, HAdd.out] at HC
        injection e with q1 q2 q3 q4 q5
        subst q1 q2 q3 q4 q5
        go_wp2_with (go_at_call 17; refine HC.out.mono ?_; rintro e w8 ⟨rfl, fp8, h, kc⟩; have S2 := hideE (HFx.out.step h kc); clear h kc)
        go_roundg q
        case measure => omega
        case rel => exact ⟨k + 1, _, by omega, by simp, S2.out⟩
      · have HC := hideE (HVar.out (r : Int) ⟨by omega, by omega⟩ _ _ _ HFx.out.d)
        have q1 : regN L (r : Int) = k := by unfold regN; rw [if_pos (regE_ok hr), ← e]; exact HPut.out
        have q2 : regL L (r : Int) = L := by unfold regL; rw [if_pos (regE_ok hr), ← e]; exact HAdd.out
        rw [q1, q2, regE_ok hr] at HC
        rw [reg_nat h0 hr] at e
        have hm : ((BitVec.ofNat 32 r).toNat : Int) = (r : Int) := by rw [BitVec.toNat_ofNat, Nat.mod_eq_of_lt (by omega)]
        clear q1 q2
        injection e with q1 q2 q3 q4 q5
        rw [q2, hm] at t1
        subst q1 q2 q3 q4 q5
        have hr0 : (0 : Int) ≤ (r : Int) := by omega
        have hwr : IntKind.i64.wrap (r : Int) = (r : Int) := wrE (by omega) (by omega)
        go_wp2_with (go_at_call 18; refine HC.out.mono ?_; rintro e w8 ⟨rfl, fp8, h, kc⟩; have S2 := hideE (HFx.out.step h kc); clear h kc)
        go_roundg q
        case measure => omega
        case rel => exact ⟨k + 1, _, by omega, by simp, S2.out⟩
      · have hE := opE_ok (op := op) HKl.out ha hb h1 h2
        have HC := hideE (HOp.out op (a : Int) (b : Int) ⟨by omega, by omega⟩ ⟨by omega, by omega⟩ ⟨by omega, by omega⟩ _ _ _ HFx.out.d)
        have q1 : opN L op (a : Int) (b : Int) = k := by unfold opN; rw [if_pos hE, ← e]; exact HPut.out
        have q2 : opL L op (a : Int) (b : Int) = L := by unfold opL; rw [if_pos hE, ← e]; exact HAdd.out
        rw [q1, q2, hE] at HC
        clear q1 q2 hE
        injection e with q1 q2 q3 q4 q5
        subst q1 q2 q3 q4 q5
        have hak : ¬ ((k : Int) ≤ (a : Int)) := by omega
        have hbk : ¬ ((k : Int) ≤ (b : Int)) := by omega
        go_wp2_with (go_at_call 19; refine HC.out.mono ?_; rintro e w8 ⟨rfl, fp8, h, kc⟩; have S2 := hideE (HFx.out.step h kc); clear t0 t1 t2 t3 t4; obtain ⟨t0, t1, t2, t3, t4⟩ := fiveT ((kc.block _ (Array.getElem?_eq_some_iff.1 HTb.out).1 HFr.out).trans HTb.out); clear h kc)
        go_roundg q
        case measure => omega
        case rel => exact ⟨k + 1, _, by omega, by simp, S2.out⟩
end Go.Proofs.Ythlefedljgmmfaa
namespace Go.Proofs.Ythlefedljgmmfaa
open Go.RowKit Go.Lib Tm
set_option linter.unusedSimpArgs false
set_option linter.unusedVariables false

theorem bit_ofT (n : BitVec 32) (r : Nat) : n.toNat / 2 ^ r % 2 = if n.getLsbD r = true then 1 else 0 := by
  have h : n.getLsbD r = n.toNat.testBit r := rfl
  rw [h, Nat.testBit_eq_decide_div_mod_eq]
  by_cases e : n.toNat / 2 ^ r % 2 = 1
  · rw [if_pos (decide_eq_true e), e]
  · rw [if_neg (by simpa using e)]; omega
theorem low_modT (n : BitVec 32) : (n &&& (BitVec.ofNat 32 1)).toNat = n.toNat % 2 := by
  rw [BitVec.toNat_and]
  exact Nat.and_two_pow_sub_one_eq_mod _ 1
/-- A register's bit, as a program asks it. -/
theorem bit_askT (n : BitVec 32) (r : Nat) : ∃ Y : BitVec 32, (n.toNat : Int) / 2 ^ r = (Y.toNat : Int) ∧ bits .and .u32 (Y.toNat : Int) 1 = if n.getLsbD r = true then 1 else 0 := by
  refine ⟨n >>> r, Wd.shr_ n r, ?_⟩
  have h := Wd.and_ (n >>> r) (BitVec.ofNat 32 1)
  have h2 : ((n >>> r) &&& (BitVec.ofNat 32 1)).toNat = n.toNat / 2 ^ r % 2 := by rw [low_modT, BitVec.toNat_ushiftRight, Nat.shiftRight_eq_div_pow]
  rw [h2, bit_ofT] at h
  rw [show (((BitVec.ofNat 32 1)).toNat : Int) = 1 from rfl] at h
  rw [h]
  split <;> rfl
/-- The registers under way: those below a bound that a word names are the first's. -/
def mixT (x y : Nat → BitVec 32) (m : BitVec 32) (r : Nat) : Nat → BitVec 32 := fun j => if j < r ∧ m.getLsbD j = true then x j else y j
theorem mix_zero (x y : Nat → BitVec 32) (m : BitVec 32) : regsC (mixT x y m 0) = regsC y := by
  have : mixT x y m 0 = y := by funext j; unfold mixT; rw [if_neg (by omega)]
  rw [this]
theorem mix_no {x y : Nat → BitVec 32} {m : BitVec 32} {r : Nat} (h : ¬ m.getLsbD r = true) : mixT x y m (r + 1) = mixT x y m r := by
  funext j
  unfold mixT
  by_cases hj : j = r
  · subst hj; rw [if_neg (fun c => h c.2), if_neg (fun c => h c.2)]
  · by_cases hc : j < r ∧ m.getLsbD j = true
    · rw [if_pos hc, if_pos ⟨by omega, hc.2⟩]
    · rw [if_neg hc, if_neg (fun c => hc ⟨by omega, c.2⟩)]
theorem mix_yes {x y : Nat → BitVec 32} {m : BitVec 32} {r : Nat} (hr : r < 32) (h : m.getLsbD r = true) : (regsC (mixT x y m r)).setIfInBounds r (.int .u32 ((x r).toNat : Int)) = regsC (mixT x y m (r + 1)) := by
  apply Array.ext_getElem?
  intro j
  by_cases hj : j < 32
  · rw [regs_get _ hj, Array.getElem?_setIfInBounds]
    by_cases e : r = j
    · subst e
      rw [if_pos rfl, if_pos (by rw [regs_size]; exact hr)]
      unfold mixT
      rw [if_pos ⟨by omega, h⟩]
    · rw [if_neg e, regs_get _ hj]
      unfold mixT
      by_cases hc : j < r ∧ m.getLsbD j = true
      · rw [if_pos hc, if_pos ⟨by omega, hc.2⟩]
      · rw [if_neg hc, if_neg (fun c => hc ⟨by omega, c.2⟩)]
  · rw [Array.getElem?_eq_none (by rw [Array.size_setIfInBounds, regs_size]; omega), Array.getElem?_eq_none (by rw [regs_size]; omega)]
theorem mix_val {L : List Trm} (hok : OkT L) (x y : Nat → BitVec 32) {k : Nat} (hk : k < L.length) : evalN (mixT x y (needN L k) 32) L (k : Int) = evalN x L (k : Int) := by
  obtain ⟨_, _, c⟩ := nodeE_yes (L := L) hk
  rw [c, c]
  exact val_needs hok k hk (fun r hr hb => by unfold mixT; rw [if_pos ⟨hr, hb⟩])
theorem Fx.put {Dag : World → Nat → List Trm → (Nat → Prop) → Prop} {w W : World} {g : Nat} {L : List Trm} {fp : Nat → Prop} (HT : TmAll Dag) (h : Fx Dag w g L fp W) {b : Nat} (hb : w.heap.size ≤ b) (hf : ¬ fp b) (r : Nat) (v : Value) : Fx Dag w g L fp (W.setCell ⟨b, r, none⟩ v) :=
  ⟨HT.keep h.d (by simp) (fun k hk => Below.heap_setCell _ _ _ _ (fun e => hf (by rw [← show k = b from e]; exact hk))), h.lo, h.low.setCell hb v⟩
theorem setRow_here (W : World) (g : Nat) (cs old : Array Value) (t : TypeId) (fr : Nat × Nat) (h : W.heap[g]? = some (.cells old t fr)) : (W.setRow g cs).heap[g]? = some (.cells cs t fr) := by
  unfold World.setRow
  simp only
  rw [Array.getElem?_modify, if_pos rfl, h]; rfl
theorem Fx.row {Dag : World → Nat → List Trm → (Nat → Prop) → Prop} {w W : World} {g : Nat} {L : List Trm} {fp : Nat → Prop} (HT : TmAll Dag) (h : Fx Dag w g L fp W) {b : Nat} (hb : w.heap.size ≤ b) (hf : ¬ fp b) (cs : Array Value) : Fx Dag w g L fp (W.setRow b cs) :=
  ⟨HT.keep h.d (by simp) (fun k hk => setRow_other _ _ _ _ (fun e => hf (e ▸ hk))), h.lo, ⟨h.low.os, h.low.tape, h.low.output, by simpa using h.low.size, fun k hk => (setRow_other _ _ _ _ (by omega)).trans (h.low.block k hk)⟩⟩
theorem regs_one (x : Nat → BitVec 32) : (regsC x).all (·.oneCell') = true := by
  unfold regsC; simp [Value.oneCell']
theorem regs_cell {W : World} {b : Nat} {x : Nat → BitVec 32} (h : W.heap[b]? = some (.cells (regsC x) 39 (0, 0))) {r : Nat} (hr : r < 32) : W.cell? ⟨b, r, none⟩ = some (.int .u32 ((x r).toNat : Int)) ∧ W.frozen? ⟨b, r, none⟩ = false := by
  have := regs_get x hr
  constructor
  · simp [World.cell?, h, this]
  · simp [World.frozen?, h]
set_option maxHeartbeats 8000000 in
set_option maxRecDepth 100000 in
theorem termVars_any {Dag : World → Nat → List Trm → (Nat → Prop) → Prop} (HT : TmAll Dag) (p : Option Addr) (c : Nat) (s : List Opc) (x y : Nat → BitVec 32) (w : World) (hS : SlO w (.slice p s.length c) s) (ho : ∀ o ∈ s, OkO o) (hl : s.length ≤ 9223372036854775807) :
    Calls Try.prog 6 #[.slice p s.length c, .agg (regsC x), .agg (regsC y)] w fun e w' => e = .returned (.bool true) ∧ Below w.heap.size w w' := by
  have hL := run_len s 60
  have hok := (run_ok (s.take 60)).1
  have HLaid := hideE (fun W hW => laid_any HT p c s W hW ho hl)
  obtain ⟨L, hLL⟩ : ∃ L, runL (s.take 60) = L := ⟨_, rfl⟩
  rw [hLL] at hL hok HLaid
  obtain ⟨sn, hsn⟩ : ∃ k, s.length = k := ⟨_, rfl⟩
  rw [hsn] at HLaid hS ⊢
  have HF := hideE (fun W => fixed_any10 HT W)
  obtain ⟨n, hn⟩ : ∃ n, L.length = n := ⟨_, rfl⟩
  have HLen := hideE (fun W g fp (h : Dag W g L fp) => HT.len hok (by omega) h)
  have HVars := hideE (fun (k : Int) (hk : In64 k) W g fp (h : Dag W g L fp) => HT.vars k hk hok (by omega) h)
  have HEval := hideE (fun (k : Int) (hk : In64 k) x W g fp (h : Dag W g L fp) => HT.eval k x hk hok (by omega) h)
  have HMix := hideE (fun k (hk : k < L.length) => mix_val hok x y hk)
  rw [hn] at HLen hL HMix
  obtain ⟨X, hX⟩ : ∃ X, regsC x = X := ⟨_, rfl⟩
  obtain ⟨Y, hY⟩ : ∃ Y, regsC y = Y := ⟨_, rfl⟩
  have hXs : X.size = 32 := by rw [← hX]; exact regs_size x
  have hY1 : Y.all (·.oneCell') = true := by rw [← hY]; exact regs_one y
  have hYs : Y.size = 32 := by rw [← hY]; exact regs_size y
  have HB0 := hideE (((Below.refl _ w).alloc (Nat.le_refl _) (.cells X 39)).alloc (by rw [World.size_alloc]; omega) (.cells Y 39))
  have HXb := hideE (keptN ((Below.refl _ (w.alloc (.cells X 39))).alloc (Nat.le_refl _) (.cells Y 39)) (heap_alloc_new w (.cells X 39)))
  have hyb0 := heap_alloc_new (w.alloc (.cells X 39)) (.cells Y 39)
  rw [World.size_alloc] at hyb0
  have HYb := hideE hyb0
  obtain ⟨W0, hW0⟩ : ∃ W0, (w.alloc (.cells X 39)).alloc (.cells Y 39) = W0 := ⟨_, rfl⟩
  rw [hW0] at HB0 HXb HYb
  have hz0 : w.heap.size + 2 = W0.heap.size := by rw [← hW0, World.size_alloc, World.size_alloc]
  have HI0 : Hid (w.heap.size < W0.heap.size) := by show _ < _; omega
  have HI1 : Hid (w.heap.size + 1 < W0.heap.size) := by show _ < _; omega
  have HSl := hideE (HLaid.out _ (hS.below HB0.out))
  simp only [ptrV] at HSl HLen HVars HEval
  have HN := hideE hn
  have HXX := hideE hX
  have HYY := hideE hY
  rw [hX, hY]
  clear HLaid hS ho hl hLL hsn hok hn hyb0 hz0 hX hY
  go_enter Try.func6, Try.ntmps6
  go_upto_region 5 with (go_at_call 9; refine HSl.out.mono ?_; rintro e w1 ⟨g, g2, rfl, fp, fp2, hp⟩; have P0 := hideE hp.fx; clear hp)
  go_loopg [10] n (fun q j W => ∃ (k : Nat) (fp : Nat → Prop), k + q = n ∧ j = .int .i64 (k : Int) ∧ Fx Dag W0 g L fp W)
  case atStart => exact ⟨0, fp, by omega, rfl, P0.out⟩
  case round =>
    clear P0
    obtain ⟨k, fp4, hkq, rfl, hfx⟩ := hrel
    have HFx := hideE hfx
    clear hfx
    cases gk with
    | zero =>
      obtain rfl : k = n := by omega
      have hk : ¬ ((k : Int) < (k : Int)) := by omega
      go_wp2_with (first
        | (go_at_call 10; refine (HLen.out _ _ _ HFx.out.d).mono ?_; rintro e w2 ⟨rfl, fp5, h, kc⟩; have P1 := hideE (HFx.out.step h kc); clear h kc)
        | (go_at_call 12; refine (HF.out _).mono ?_; rintro e w9 ⟨rfl, h⟩; have P9 := hideE (P1.out.below HT h); clear h))
      go_ret
      exact ⟨rfl, HB0.out.trans (P9.out.low.mono HB0.out.size)⟩
    | succ q =>
      have hk : (k : Int) < (n : Int) := by omega
      have hk0 : (0 : Int) ≤ (k : Int) := by omega
      have hwk : IntKind.i64.wrap ((k : Int) + 1) = (k : Int) + 1 := wrE (by omega) (by omega)
      have hkl : k < L.length := by rw [HN.out]; omega
      obtain ⟨v1, v2, v3⟩ := nodeE_yes hkl
      have H1 := hideE (fun W g fp (h : Dag W g L fp) => HVars.out (k : Int) ⟨by omega, by omega⟩ W g fp h)
      obtain ⟨M, hM⟩ : ∃ M, needN L k = M := ⟨_, rfl⟩
      have hmix := HMix.out k (by omega)
      rw [hM] at hmix v2
      simp only [v1, v2] at H1
      have H2 := hideE (fun W g fp (h : Dag W g L fp) => HEval.out (k : Int) ⟨by omega, by omega⟩ x W g fp h)
      have H3 := hideE (fun W g fp (h : Dag W g L fp) => HEval.out (k : Int) ⟨by omega, by omega⟩ (mixT x y M 32) W g fp h)
      obtain ⟨R, hR⟩ : ∃ R, (evalN x L (k : Int)).toNat = R := ⟨_, rfl⟩
      simp only [v1, hmix, hR, HXX.out] at H2 H3
      clear v1 v2 v3 hM hmix hR hkl
      go_upto_region 10 with (first
        | (go_at_call 10; refine (HLen.out _ _ _ HFx.out.d).mono ?_; rintro e w2 ⟨rfl, fp5, h, kc⟩; have P1 := hideE (HFx.out.step h kc); clear h kc)
        | (go_at_call 15; refine (H1.out _ _ _ P1.out.d).mono ?_; rintro e w3 ⟨rfl, fp6, h, kc⟩; have P2 := hideE (P1.out.step h kc); have hyb := ofD (P1.out.step h kc) HI1.out HYb.out; clear h kc)
        | (refine wpList_load_row rfl 39 _ rfl (w.heap.size + 1) rfl _ _ _ _ hyb Try.underlying39 rfl (by rw [hYs]; kernel_rfl) ?_)
        | (refine wpList_store_row rfl 39 _ _ rfl w3.heap.size Y rfl rfl _ _ (heap_alloc_new _ _) (by rw [hYs]; kernel_rfl) (by rw [hYs]; rfl) hY1 ?_))
      have hb3 := (Below.refl _ w3).alloc (Nat.le_refl _) (.cells (regsC fun _ => (BitVec.ofNat 32 0)) 39)
      have hf3 := P2.out.free HT (Nat.le_refl _)
      have hs3 := P2.out.low.size
      refine gen_world (fun W => Fx Dag W0 g L fp6 W ∧ W.heap[w3.heap.size]? = some (.cells (regsC (mixT x y M 0)) 39 (0, 0))) ⟨(P2.out.below HT hb3).row HT hs3 hf3 _, by rw [mix_zero, HYY.out]; exact setRow_here _ _ _ _ _ _ (heap_alloc_new _ _)⟩ ?_
      clear hb3 hyb
      rintro W4 ⟨hfx, hzb⟩
      have HP2z := hideE (show w3.heap.size ≥ W0.heap.size from hs3)
      have HFr := hideE hf3
      obtain ⟨zb, hzbn⟩ : ∃ zb, w3.heap.size = zb := ⟨_, rfl⟩
      rw [hzbn] at hzb HFr HP2z ⊢
      clear hf3 hs3 P2 P1 HFx hzbn
      go_loopg [14] 32 (fun q j W => ∃ r : Nat, r + q = 32 ∧ j = .int .i64 (r : Int) ∧ Fx Dag W0 g L fp6 W ∧ W.heap[zb]? = some (.cells (regsC (mixT x y M r)) 39 (0, 0)))
      case atStart => exact ⟨0, by omega, rfl, hfx, hzb⟩
      case round =>
        clear hfx hzb
        obtain ⟨r, hrq, rfl, hfx, hzb⟩ := hrel
        have HFx := hideE hfx
        have HZb := hideE hzb
        cases gk with
        | zero =>
          obtain rfl : r = 32 := by omega
          have hxb := ofD hfx HI0.out HXb.out
          obtain ⟨Z, hZ⟩ : ∃ Z, regsC (mixT x y M 32) = Z := ⟨_, rfl⟩
          have hZs : Z.size = 32 := by rw [← hZ]; exact regs_size _
          rw [hZ] at HZb hzb
          have HH3 := H3
          rw [hZ] at HH3
          clear hfx hzb hZ H3
          go_wp2_with (first
            | (refine wpList_load_row rfl 39 _ rfl w.heap.size rfl _ _ _ _ hxb Try.underlying39 rfl (by rw [hXs]; kernel_rfl) ?_)
            | (go_at_call 13; refine (H2.out _ _ _ HFx.out.d).mono ?_; rintro e w5 ⟨rfl, fp7, h, kc⟩; have P3 := hideE (HFx.out.step h kc); have hzb := (kc.block zb (Array.getElem?_eq_some_iff.1 HZb.out).1 HFr.out).trans HZb.out; clear h kc hxb H2 HFx)
            | (refine wpList_load_row rfl 39 _ rfl zb rfl _ _ _ _ hzb Try.underlying39 rfl (by rw [hZs]; kernel_rfl) ?_)
            | (go_at_call 13; refine (HH3.out _ _ _ P3.out.d).mono ?_; rintro e w6 ⟨rfl, fp8, h, kc⟩; have P4 := hideE (P3.out.step h kc); clear h kc hzb))
          go_roundg q
          case measure => omega
          case rel => exact ⟨k + 1, fp8, by omega, by simp, P4.out⟩
        | succ q2 =>
          have hr : (r : Int) < 32 := by omega
          have hr0 : (0 : Int) ≤ (r : Int) := by omega
          have hrn : r < 32 := by omega
          have hwr : IntKind.i64.wrap ((r : Int) + 1) = (r : Int) + 1 := wrE (by omega) (by omega)
          obtain ⟨Y1, hY1', hA⟩ := bit_askT M r
          by_cases hb : M.getLsbD r = true
          · rw [if_pos hb] at hA
            have hxb := ofD hfx HI0.out HXb.out
            rw [← HXX.out] at hxb
            obtain ⟨cx, _⟩ := regs_cell hxb hrn
            obtain ⟨cz, fz⟩ := regs_cell hzb hrn
            have h9 := heap_setCell_same wr zb r _ _ (.int .u32 ((x r).toNat : Int)) hzb
            have h8 := hfx.put HT HP2z.out HFr.out r (.int .u32 ((x r).toNat : Int))
            have H9 := hideE h9
            have H8 := hideE h8
            have HMy := hideE (mix_yes (x := x) (y := y) hrn hb)
            clear hfx hzb hxb h9 h8 hb
            go_wp2_with fail
            go_roundg q2
            case measure => omega
            case rel => exact ⟨r + 1, by omega, by simp, H8.out, by rw [← HMy.out]; simpa using H9.out⟩
          · rw [if_neg hb] at hA
            have HMn := hideE (mix_no (x := x) (y := y) hb)
            clear hfx hzb hb
            go_wp2_with fail
            go_roundg q2
            case measure => omega
            case rel => exact ⟨r + 1, by omega, by simp, HFx.out, by rw [HMn.out]; exact HZb.out⟩
end Go.Proofs.Ythlefedljgmmfaa
namespace Go.Proofs.Ythlefedljgmmfaa.termVars
open Go.ChangeShapes Go.WideShapes Go.ChangeAt Go.RowKit
open Go.ChangeMaps (open_string shut_string)
set_option linter.unusedVariables false

theorem own : ownKnob Try.prog.godebug = none := by kernel_rfl

set_option maxRecDepth 100000 in
theorem lifted (os : Os) (started : os.Started) (H : Type) (enc : TypeId × Value → H) :
    ReturnsInHanded {} Try.checked os 6 .any (Rows.termVarsSpec.pre6 enc Try.prog Try.f6 Rows.termVarsRow.domain false) (Rows.termVarsSpec.post enc Try.prog Try.f6 false true false false) := by
  refine returnsInHanded_of_change (C := Try.checked) own started (by kernel_rfl) Try.func6
    (ChangeSpec.witness6 (enc := enc) (C := Try.checked) false ⟨#[], #[.slice none 0 0, .agg #[.int .u32 0, .int .u32 0, .int .u32 0, .int .u32 0, .int .u32 0, .int .u32 0, .int .u32 0, .int .u32 0, .int .u32 0, .int .u32 0, .int .u32 0, .int .u32 0, .int .u32 0, .int .u32 0, .int .u32 0, .int .u32 0, .int .u32 0, .int .u32 0, .int .u32 0, .int .u32 0, .int .u32 0, .int .u32 0, .int .u32 0, .int .u32 0, .int .u32 0, .int .u32 0, .int .u32 0, .int .u32 0, .int .u32 0, .int .u32 0, .int .u32 0, .int .u32 0], .agg #[.int .u32 0, .int .u32 0, .int .u32 0, .int .u32 0, .int .u32 0, .int .u32 0, .int .u32 0, .int .u32 0, .int .u32 0, .int .u32 0, .int .u32 0, .int .u32 0, .int .u32 0, .int .u32 0, .int .u32 0, .int .u32 0, .int .u32 0, .int .u32 0, .int .u32 0, .int .u32 0, .int .u32 0, .int .u32 0, .int .u32 0, .int .u32 0, .int .u32 0, .int .u32 0, .int .u32 0, .int .u32 0, .int .u32 0, .int .u32 0, .int .u32 0, .int .u32 0]], []⟩ 8 (by kernel_rfl) (by kernel_rfl) (by kernel_rfl) (by kernel_rfl)) ?_
  intro W base args ds gs before hval0 hW hcnd _
  have hval : ∀ (j : Nat) t v, Try.f6.params[j]? = some t → args[j]? = some v → Value.okWide Try.prog W .any base t v := hval0
  have hW' := hW
  obtain ⟨p, q, hA0, hV, rfl, hfz, hnd⟩ := hW
  have hA : DataW.TrodAll enc Try.prog W 0 (fun _ => true) true Try.f6.params.toList args.toList ds p := hA0
  rw [Try.params6] at hA hval
  obtain ⟨v0, vs0, d0, ds0, p0, q0, hargs, rfl, rfl, h0, r0⟩ := trodAll_cons hA
  obtain ⟨v1, vs1, d1, ds1, p1, q1, rfl, rfl, rfl, h1, r1⟩ := trodAll_cons r0
  obtain ⟨v2, vs2, d2, ds2, p2, q2, rfl, rfl, rfl, h2, r2⟩ := trodAll_cons r1
  obtain ⟨rfl, rfl, rfl⟩ := trodAll_nil r2
  obtain rfl : args = #[v0, v1, v2] := by cases args; simp_all
  obtain ⟨rfl, rfl⟩ := trodVars_none hV
  have hlt : ∀ x ∈ p0 ++ p1 ++ p2, x.block < W.heap.size := fun x hx => by simpa using hW'.lt x (by simpa using hx)
  have k0 := h0
  have l0 : ∀ x ∈ p0, x.block < W.heap.size := fun x hx => hlt x (by simp [hx])
  have k1 := h1
  have l1 : ∀ x ∈ p1, x.block < W.heap.size := fun x hx => hlt x (by simp [hx])
  have k2 := h2
  have l2 : ∀ x ∈ p2, x.block < W.heap.size := fun x hx => hlt x (by simp [hx])
  obtain ⟨pi0, ci0, li0, rfl, hsl0, hoo0, hln0⟩ := open_ops (hval 0 22 v0 rfl rfl) h0
  obtain ⟨x1, rfl⟩ := open_regs (hval 1 39 v1 rfl rfl) h1
  obtain ⟨x2, rfl⟩ := open_regs (hval 2 39 v2 rfl rfl) h2
  clear hA0 hval0
  refine (termVars_any tm10 pi0 ci0 li0 x1 x2 W hsl0 hoo0 hln0).mono fun e W' ⟨he, hg⟩ => ?_
  subst he
  exact ⟨_, rfl, _, _, _, [], _, [], hW', trodAll_mk1 (shut_bool Try.underlying4 _), (trodAll_cons_mk (Below.trod laidOut6 (by kernel_rfl) (of_decide_eq_true (by kernel_rfl)) k0 hg l0) (trodAll_cons_mk (Below.trod laidOut6 (by kernel_rfl) (of_decide_eq_true (by kernel_rfl)) k1 hg l1) (trodAll_cons_mk (Below.trod laidOut6 (by kernel_rfl) (of_decide_eq_true (by kernel_rfl)) k2 hg l2) trodAll_mk0))), rfl, hg.frame _, fun h => by cases h⟩

theorem over : Rows.termVarsRow.holds Try.pinned (OpenSpec.ofChange Rows.termVarsSpec) :=
  OpenClaim.holds_of_wide 6 Try.f6 rfl rfl rfl rfl rfl rfl rfl ⟨rfl, rfl, rfl, rfl, rfl⟩ rfl rfl rfl rfl rfl (by kernel_rfl) Try.func6 (by kernel_rfl)
    (of_decide_eq_true (by kernel_rfl)) (by unfold Func.isWrapper; first | (rw [if_pos (by decide +kernel)]; kernel_rfl) | (rw [if_neg (by decide +kernel)]; exact ⟨rfl, rfl⟩))
    (fun os started H enc _ => lifted os started H enc)

theorem proved : Rows.TermVarsSaid :=
  over
#print axioms proved
end Go.Proofs.Ythlefedljgmmfaa.termVars
