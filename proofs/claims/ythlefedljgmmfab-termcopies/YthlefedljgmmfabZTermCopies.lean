/-
  TermCopies, as the row says it.
  The walk of TermCopies.
-/
import Derived.Test.YthlefedljgmmfabRows
import Derived.WalkKit
import Derived.ProofKit
import Derived.OpenShut
import Derived.Carry
import Derived.ChangeMaps
import Derived.Test.YthlefedljgmmfabZC1
import Derived.Test.YthlefedljgmmfabZW0
import Derived.Test.YthlefedljgmmfabZW5
namespace Go.Proofs.Ythlefedljgmmfab
open Go.RowKit Go.Lib Tm
set_option linter.unusedSimpArgs false
set_option linter.unusedVariables false

/-- Two objects of the code, apart. -/
structure Cc (Dag : World → Nat → List Trm → (Nat → Prop) → Prop) (w : World) (g : Nat) (L : List Trm) (fp : Nat → Prop) (g2 : Nat) (L2 : List Trm) (fp2 : Nat → Prop) (W : World) : Prop where
  d : Dag W g L fp
  k : Dag W g2 L2 fp2
  apart : ∀ j, fp j → ¬ fp2 j
  lo : ∀ j, fp j → w.heap.size ≤ j
  lo2 : ∀ j, fp2 j → w.heap.size ≤ j
  low : Below w.heap.size w W
section
variable {Dag : World → Nat → List Trm → (Nat → Prop) → Prop} {w W W' : World} {g g2 : Nat} {L L' L2 L2' : List Trm} {fp fp' fp2 fp2' : Nat → Prop}
theorem Cc.left (HT : TmAll Dag) (h : Cc Dag w g L fp g2 L2 fp2 W) (hd : Dag W' g L' fp') (hc : Chg fp fp' W W') : Cc Dag w g L' fp' g2 L2 fp2 W' where
  d := hd
  k := HT.keep h.k hc.size (fun k hk => hc.block k (HT.lt h.k k hk) (fun c => h.apart k c hk))
  apart := fun j hj hj2 => (hc.grow j hj).elim (fun c => h.apart j c hj2) (fun c => by have := HT.lt h.k j hj2; omega)
  lo := fun j hj => (hc.grow j hj).elim (h.lo j) (fun c => Nat.le_trans h.low.size c)
  lo2 := h.lo2
  low := h.low.trans (hc.below h.low.size h.lo)
theorem Cc.right (HT : TmAll Dag) (h : Cc Dag w g L fp g2 L2 fp2 W) (hd : Dag W' g2 L2' fp2') (hc : Chg fp2 fp2' W W') : Cc Dag w g L fp g2 L2' fp2' W' where
  d := HT.keep h.d hc.size (fun k hk => hc.block k (HT.lt h.d k hk) (h.apart k hk))
  k := hd
  apart := fun j hj hj2 => (hc.grow j hj2).elim (fun c => h.apart j hj c) (fun c => by have := HT.lt h.d j hj; omega)
  lo := h.lo
  lo2 := fun j hj => (hc.grow j hj).elim (h.lo2 j) (fun c => Nat.le_trans h.low.size c)
  low := h.low.trans (hc.below h.low.size h.lo2)
theorem Cc.below (HT : TmAll Dag) (h : Cc Dag w g L fp g2 L2 fp2 W) (hb : Below W.heap.size W W') : Cc Dag w g L fp g2 L2 fp2 W' where
  d := HT.keep h.d hb.size (fun k hk => hb.block k (HT.lt h.d k hk))
  k := HT.keep h.k hb.size (fun k hk => hb.block k (HT.lt h.k k hk))
  apart := h.apart
  lo := h.lo
  lo2 := h.lo2
  low := h.low.trans (hb.mono h.low.size)
theorem Cc.free (HT : TmAll Dag) (h : Cc Dag w g L fp g2 L2 fp2 W) {b : Nat} (hb : W.heap.size ≤ b) : ¬ fp2 b := fun c => by have := HT.lt h.k b c; omega
theorem Fx.copy (HT : TmAll Dag) (h : Fx Dag w g L fp W) (h1 : Dag W' g L fp') (h2 : Dag W' g2 L fp2) (hc : Chg fp fp' W W') (hn : ∀ k, fp2 k → W.heap.size ≤ k) (ha : ∀ k, fp2 k → ¬ fp' k) : Cc Dag w g L fp' g2 L fp2 W' :=
  ⟨h1, h2, fun j hj hj2 => ha j hj2 hj, (h.step h1 hc).lo, fun j hj => Nat.le_trans h.low.size (hn j hj), (h.step h1 hc).low⟩
end
theorem nodeC_at {L : List Trm} {k : Nat} {t : Trm} (h : L[k]? = some t) : nodeT L (k : Int) = t ∧ nodeE L (k : Int) = 0 := by
  have hk := (List.getElem?_eq_some_iff.1 h).1
  have e : hasN L (k : Int) = true := by unfold hasN; exact decide_eq_true (by omega)
  unfold nodeT nodeE
  rw [e, Int.toNat_natCast, List.getD_eq_getElem?_getD, h]
  exact ⟨rfl, rfl⟩
theorem cp_all {L : List Trm} (hok : OkT L) (hl : L.length ≤ 60) (v : BitVec 32) : ∃ La Lb Lc a b x m, OkT La ∧ OkT Lb ∧ OkT Lc ∧ La.length ≤ 61 ∧ Lb.length ≤ 62 ∧ Lc.length ≤ 63 ∧ (findT L (constT v) = a ∧ addT L (constT v) = La) ∧ (regN La 31 = b ∧ regE 31 = 0 ∧ regL La 31 = Lb) ∧ (opN Lb 28 (a : Int) (b : Int) = x ∧ opE Lb 28 (a : Int) (b : Int) = 0 ∧ opL Lb 28 (a : Int) (b : Int) = Lc) ∧ Lc.length = m ∧ x < m ∧ a ≤ 63 ∧ b ≤ 63 ∧ ∀ (i : Nat) (t : Trm), L[i]? = some t → Lc[i]? = some t := by
  have o1 := hok.add (fine_const L.length v)
  have o2 := o1.add (fine_reg (addT L (constT v)).length (r := 31) rfl)
  have l1 := add_len L (constT v)
  have l2 := add_len (addT L (constT v)) (regT 31)
  have i1 := add_in L (constT v)
  have i2 := add_in (addT L (constT v)) (regT 31)
  have hE : opE (addT (addT L (constT v)) (regT 31)) 28 ((findT L (constT v) : Nat) : Int) ((findT (addT L (constT v)) (regT 31) : Nat) : Int) = 0 := by
    unfold opE; rw [if_neg (by omega), if_neg (by decide)]
  have o3 := o2.add (fine_op hE)
  have l3 := add_len (addT (addT L (constT v)) (regT 31)) (opT 28 ((findT L (constT v) : Nat) : Int) ((findT (addT L (constT v)) (regT 31) : Nat) : Int))
  refine ⟨_, _, _, _, _, _, _, o1, o2, o3, by omega, by omega, by omega, ⟨rfl, rfl⟩, ⟨?_, rfl, ?_⟩, ⟨?_, hE, ?_⟩, rfl, add_in _ _, by omega, by omega, fun i t h => ?_⟩
  · unfold regN; rw [if_pos (show regE 31 = 0 from rfl)]
  · unfold regL; rw [if_pos (show regE 31 = 0 from rfl)]
  · unfold opN; rw [if_pos hE]
  · unfold opL; rw [if_pos hE]
  · have hi := (List.getElem?_eq_some_iff.1 h).1
    rw [add_old _ (by omega), add_old _ (by omega), add_old _ hi]; exact h
set_option maxHeartbeats 8000000 in
set_option maxRecDepth 100000 in
theorem termCopies_any {Dag : World → Nat → List Trm → (Nat → Prop) → Prop} (HT : TmAll Dag) (p : Option Addr) (c : Nat) (s : List Opc) (v : BitVec 32) (w : World) (hS : SlO w (.slice p s.length c) s) (ho : ∀ o ∈ s, OkO o) (hl : s.length ≤ 9223372036854775807) :
    Calls Try.prog 3 #[.slice p s.length c, .int .u32 (v.toNat : Int)] w fun e w' => e = .returned (.bool true) ∧ Below w.heap.size w w' := by
  have hL := run_len s 60
  have hok := (run_ok (s.take 60)).1
  have HLaid := hideE (laid_any HT p c s w hS ho hl)
  obtain ⟨L, hLL⟩ : ∃ L, runL (s.take 60) = L := ⟨_, rfl⟩
  rw [hLL] at hL hok HLaid
  obtain ⟨sn, hsn⟩ : ∃ k, s.length = k := ⟨_, rfl⟩
  rw [hsn] at HLaid ⊢
  have HF := hideE (fun W => fixed_any10 HT W)
  obtain ⟨La, Lb, Lc, a, b, x, m, oa, ob, oc, la, lb, lc, ⟨a1, a2⟩, ⟨b1, b2, b3⟩, ⟨x1, x2, x3⟩, hm, hxm, ha63, hb63, hold⟩ := cp_all hok hL v
  have HC1 := hideE (fun W g fp (h : Dag W g L fp) => HT.const v hok (by omega) h)
  have HC2 := hideE (fun W g fp (h : Dag W g La fp) => HT.var 31 (by decide) oa (by omega) h)
  have HC3 := hideE (fun W g fp (h : Dag W g Lb fp) => HT.op 28 (a : Int) (b : Int) (by decide) (by omega) (by omega) ob (by omega) h)
  have HLc := hideE (fun W g fp (h : Dag W g Lc fp) => HT.len oc (by omega) h)
  have HCp := hideE (fun W g fp (h : Dag W g L fp) => HT.copy hok (by omega) h)
  have HLn := hideE (fun W g fp (h : Dag W g L fp) => HT.len hok (by omega) h)
  have HNd := hideE (fun (k : Int) (hk : In64 k) W g fp (h : Dag W g L fp) => HT.node k hk hok (by omega) h)
  have HNc := hideE (fun (k : Int) (hk : In64 k) W g fp (h : Dag W g Lc fp) => HT.node k hk oc (by omega) h)
  obtain ⟨n, hn⟩ : ∃ n, L.length = n := ⟨_, rfl⟩
  rw [hn] at HLn hL
  simp only [ptrV, a1, a2, b1, b2, b3, x1, x2, x3, hm] at HLaid HC1 HC2 HC3 HLc HCp HLn HNd HNc
  have hxi : (x : Int) < (m : Int) := by omega
  have HN := hideE hn
  have HOld := hideE hold
  clear hS ho hl hLL hsn hok hn a1 a2 b1 b2 b3 x1 x2 x3 oa ob oc la lb lc hold hm ha63 hb63
  go_enter Try.func3, Try.ntmps3
  go_upto_region 12 with (first
    | (go_at_call 4; refine HLaid.out.mono ?_; rintro e w1 ⟨g, g2, rfl, fp, fp2, hp⟩; have P0 : Hid (Fx Dag w g L fp w1) := ⟨hp.d, hp.lo, hp.low⟩; clear hp)
    | (go_at_call 5; refine (HLn.out _ _ _ P0.out.d).mono ?_; rintro e w2 ⟨rfl, fp3, h, kc⟩; have P1 := hideE (P0.out.step h kc); clear h kc P0)
    | (go_at_call 6; refine (HCp.out _ _ _ P1.out.d).mono ?_; rintro e w3 ⟨g3, fp4, fp5, rfl, h1, h2, kc, kn, ka⟩; have P2 := hideE (P1.out.copy HT h1 h2 kc kn ka); clear h1 h2 kc kn ka P1)
    | (go_at_call 5; refine (HLn.out _ _ _ P2.out.k).mono ?_; rintro e w4 ⟨rfl, fp6, h, kc⟩; have P3 := hideE (P2.out.right HT h kc); clear h kc P2)
    | (go_at_call 7; refine (HC1.out _ _ _ P3.out.k).mono ?_; rintro e w5 ⟨rfl, fp7, h, kc⟩; have P4 := hideE (P3.out.right HT h kc); clear h kc P3)
    | (go_at_call 8; refine (HC2.out _ _ _ P4.out.k).mono ?_; rintro e w6 ⟨rfl, fp8, h, kc⟩; have P5 := hideE (P4.out.right HT h kc); clear h kc P4)
    | (go_at_call 9; refine (HC3.out _ _ _ P5.out.k).mono ?_; rintro e w7 ⟨rfl, fp9, h, kc⟩; have P6 := hideE (P5.out.right HT h kc); clear h kc P5))
  go_loopg [15] n (fun q j W => ∃ (k : Nat) (fpa fpb : Nat → Prop), k + q = n ∧ j = .int .i64 (k : Int) ∧ Cc Dag w g L fpa g3 Lc fpb W)
  case atStart => exact ⟨0, _, _, by omega, rfl, P6.out⟩
  case round =>
    clear P6
    obtain ⟨k, fpa, fpb, hkq, rfl, hcc⟩ := hrel
    have HCc := hideE hcc
    clear hcc
    cases gk with
    | zero =>
      obtain rfl : k = n := by omega
      have hk : ¬ ((k : Int) < (k : Int)) := by omega
      go_wp2_with (first
        | (go_at_call 5; refine (HLc.out _ _ _ HCc.out.k).mono ?_; rintro e w2 ⟨rfl, fp5, h, kc⟩; have P1 := hideE (HCc.out.right HT h kc); clear h kc HCc HLc)
        | (go_at_call 5; refine (HLn.out _ _ _ P1.out.d).mono ?_; rintro e w3 ⟨rfl, fp6, h, kc⟩; have P2 := hideE (P1.out.left HT h kc); clear h kc P1 HLn)
        | (go_at_call 11; refine (HF.out _).mono ?_; rintro e w9 ⟨rfl, h⟩; have P9 := hideE (P2.out.below HT h); clear h))
      go_ret
      exact ⟨rfl, P9.out.low⟩
    | succ q =>
      have hk : (k : Int) < (n : Int) := by omega
      have hk0 : (0 : Int) ≤ (k : Int) := by omega
      have hwk : IntKind.i64.wrap ((k : Int) + 1) = (k : Int) + 1 := wrE (by omega) (by omega)
      have hkl : k < L.length := by rw [HN.out]; omega
      obtain ⟨t, ht⟩ : ∃ t, L[k]? = some t := ⟨L[k]'hkl, List.getElem?_eq_getElem hkl⟩
      obtain ⟨n1, n2⟩ := nodeC_at ht
      obtain ⟨m1, m2⟩ := nodeC_at (HOld.out k t ht)
      have H1 := hideE (fun W g fp (h : Dag W g L fp) => HNd.out (k : Int) ⟨by omega, by omega⟩ W g fp h)
      have H2 := hideE (fun W g fp (h : Dag W g Lc fp) => HNc.out (k : Int) ⟨by omega, by omega⟩ W g fp h)
      obtain ⟨sk, sv, sp, sa, sb⟩ := t
      simp only [n1, n2, m1, m2, termC] at H1 H2
      clear n1 n2 m1 m2 ht hkl
      go_upto_region 15 with (go_at_call 10; refine (H1.out _ _ _ HCc.out.d).mono ?_; rintro e w7 ⟨rfl, fp7, h, kc⟩; have S1 := hideE (HCc.out.left HT h kc); clear h kc HCc H1)
      have hfr := S1.out.free HT (Nat.le_refl _)
      refine gen_world (fun W => Cc Dag w g L fp7 g3 Lc fpb W ∧ W.heap[w7.heap.size]? = some (.cells #[.int .i64 sk, .int .u32 (sv.toNat : Int), .int .i64 sp, .int .i64 sa, .int .i64 sb] 36 (0, 0))) ⟨S1.out.below HT ((Below.refl _ w7).alloc (Nat.le_refl _) _), tbox _ _ _ _ _ _⟩ ?_
      clear S1
      rintro W1 ⟨hcc, hsb⟩
      have HCc := hideE hcc
      have HSb := hideE hsb
      have HFr := hideE hfr
      clear hcc hsb hfr
      go_upto_region 16 with (go_at_call 10; refine (H2.out _ _ _ HCc.out.k).mono ?_; rintro e w8 ⟨rfl, fp8, h, kc⟩; have S2 := hideE (HCc.out.right HT h kc); have HSc := hideE ((kc.block _ (Array.getElem?_eq_some_iff.1 HSb.out).1 HFr.out).trans HSb.out); clear h kc HCc H2)
      refine gen_world (fun W => Cc Dag w g L fp7 g3 Lc fp8 W ∧ W.heap[w7.heap.size]? = some (.cells #[.int .i64 sk, .int .u32 (sv.toNat : Int), .int .i64 sp, .int .i64 sa, .int .i64 sb] 36 (0, 0)) ∧ W.heap[w8.heap.size]? = some (.cells #[.int .i64 sk, .int .u32 (sv.toNat : Int), .int .i64 sp, .int .i64 sa, .int .i64 sb] 36 (0, 0))) ⟨S2.out.below HT ((Below.refl _ w8).alloc (Nat.le_refl _) _), keptN ((Below.refl _ w8).alloc (Nat.le_refl _) _) HSc.out, tbox _ _ _ _ _ _⟩ ?_
      clear S2 HSc HSb HFr
      rintro W2 ⟨hcc, hsb, htb⟩
      obtain ⟨s0, s1, s2, s3, s4⟩ := fiveT hsb
      obtain ⟨t0, t1, t2, t3, t4⟩ := fiveT htb
      have HCc := hideE hcc
      clear hcc hsb htb
      go_wp2_with fail
      go_roundg q
      case measure => omega
      case rel => exact ⟨k + 1, fp7, fp8, by omega, by simp, HCc.out⟩
end Go.Proofs.Ythlefedljgmmfab
namespace Go.Proofs.Ythlefedljgmmfab.termCopies
open Go.ChangeShapes Go.WideShapes Go.ChangeAt Go.RowKit
open Go.ChangeMaps (open_string shut_string)
set_option linter.unusedVariables false

theorem own : ownKnob Try.prog.godebug = none := by kernel_rfl

set_option maxRecDepth 100000 in
theorem lifted (os : Os) (started : os.Started) (H : Type) (enc : TypeId × Value → H) :
    ReturnsInHanded {} Try.checked os 3 .any (Rows.termCopiesSpec.pre6 enc Try.prog Try.f3 Rows.termCopiesRow.domain false) (Rows.termCopiesSpec.post enc Try.prog Try.f3 false true false false) := by
  refine returnsInHanded_of_change (C := Try.checked) own started (by kernel_rfl) Try.func3
    (ChangeSpec.witness6 (enc := enc) (C := Try.checked) false ⟨#[], #[.slice none 0 0, .int .u32 0], []⟩ 8 (by kernel_rfl) (by kernel_rfl) (by kernel_rfl) (by kernel_rfl)) ?_
  intro W base args ds gs before hval0 hW hcnd _
  have hval : ∀ (j : Nat) t v, Try.f3.params[j]? = some t → args[j]? = some v → Value.okWide Try.prog W .any base t v := hval0
  have hW' := hW
  obtain ⟨p, q, hA0, hV, rfl, hfz, hnd⟩ := hW
  have hA : DataW.TrodAll enc Try.prog W 0 (fun _ => true) true Try.f3.params.toList args.toList ds p := hA0
  rw [Try.params3] at hA hval
  obtain ⟨v0, vs0, d0, ds0, p0, q0, hargs, rfl, rfl, h0, r0⟩ := trodAll_cons hA
  obtain ⟨v1, vs1, d1, ds1, p1, q1, rfl, rfl, rfl, h1, r1⟩ := trodAll_cons r0
  obtain ⟨rfl, rfl, rfl⟩ := trodAll_nil r1
  obtain rfl : args = #[v0, v1] := by cases args; simp_all
  obtain ⟨rfl, rfl⟩ := trodVars_none hV
  have hlt : ∀ x ∈ p0 ++ p1, x.block < W.heap.size := fun x hx => by simpa using hW'.lt x (by simpa using hx)
  have k0 := h0
  have l0 : ∀ x ∈ p0, x.block < W.heap.size := fun x hx => hlt x (by simp [hx])
  have k1 := h1
  have l1 : ∀ x ∈ p1, x.block < W.heap.size := fun x hx => hlt x (by simp [hx])
  obtain ⟨pi0, ci0, li0, rfl, hsl0, hoo0, hln0⟩ := open_ops (hval 0 22 v0 rfl rfl) h0
  obtain ⟨a1, rfl, rfl, rfl, w1⟩ := open_int Try.underlying23 (hval 1 23 v1 rfl rfl) h1
  obtain ⟨x1, e1⟩ := u32_of a1 w1
  subst e1
  clear hA0 hval0
  refine (termCopies_any tm10 pi0 ci0 li0 x1 W hsl0 hoo0 hln0).mono fun e W' ⟨he, hg⟩ => ?_
  subst he
  exact ⟨_, rfl, _, _, _, [], _, [], hW', trodAll_mk1 (shut_bool Try.underlying4 _), (trodAll_cons_mk (Below.trod laidOut6 (by kernel_rfl) (of_decide_eq_true (by kernel_rfl)) k0 hg l0) (trodAll_cons_mk (Below.trod laidOut6 (by kernel_rfl) (of_decide_eq_true (by kernel_rfl)) k1 hg l1) trodAll_mk0)), rfl, hg.frame _, fun h => by cases h⟩

theorem over : Rows.termCopiesRow.holds Try.pinned (OpenSpec.ofChange Rows.termCopiesSpec) :=
  OpenClaim.holds_of_wide 3 Try.f3 rfl rfl rfl rfl rfl rfl rfl ⟨rfl, rfl, rfl, rfl, rfl⟩ rfl rfl rfl rfl rfl (by kernel_rfl) Try.func3 (by kernel_rfl)
    (of_decide_eq_true (by kernel_rfl)) (by unfold Func.isWrapper; first | (rw [if_pos (by decide +kernel)]; kernel_rfl) | (rw [if_neg (by decide +kernel)]; exact ⟨rfl, rfl⟩))
    (fun os started H enc _ => lifted os started H enc)

theorem proved : Rows.TermCopiesSaid :=
  over
#print axioms proved
end Go.Proofs.Ythlefedljgmmfab.termCopies
