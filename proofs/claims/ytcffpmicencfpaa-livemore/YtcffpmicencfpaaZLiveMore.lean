/-
  LiveMore: more that counts behind gives no fewer ahead; instructions behind instructions.
  The walk of LiveMore.
-/
import Derived.Test.YtcffpmicencfpaaRows
import Derived.WalkKit
import Derived.ProofKit
import Derived.OpenShut
import Derived.Carry
import Derived.ChangeMaps
import Derived.Test.YtcffpmicencfpaaZC1
import Derived.Test.YtcffpmicencfpaaZX6
import Derived.Test.YtcffpmicencfpaaZY1
import Derived.Test.YtcffpmicencfpaaZY3
import Derived.Test.YtcffpmicencfpaaZY5
import Derived.Test.YtcffpmicencfpaaZY6
namespace Go.Proofs.Ytcffpmicencfpaa
open Go.RowKit Go.Lib Go.Sort Ip Bl Lv Pm
set_option linter.unusedSimpArgs false
set_option linter.unusedVariables false

theorem more_bits (l : List Ins) (b X Y : BitVec 32) (hX : backB l b = X) (hY : backB l (BitVec.ofNat 32 4294967295) = Y) :
    bits .andNot .u32 (X.toNat : Int) (Y.toNat : Int) = 0 ∧ bits .and .u32 (X.toNat : Int) 1 = 0 ∧ bits .andNot .u32 (b.toNat : Int) 1 = ((backB [] b).toNat : Int) := by
  have h1 := more_full l b
  have h2 := low_zero (back_low l b)
  rw [hX, hY] at h1
  rw [hX] at h2
  refine ⟨by rw [Wd.andNot_, h1]; rfl, ?_, ?_⟩
  · have := Wd.and_ X (BitVec.ofNat 32 1)
    rw [h2] at this
    exact this
  · have := Wd.andNot_ b (BitVec.ofNat 32 1)
    rw [← even_andNot] at this
    exact this
set_option maxHeartbeats 4000000 in
set_option maxRecDepth 100000 in
theorem liveMore_walk (HL : LvAll) (pa : Option Addr) (ca : Nat) (la : List Ins) (pb : Option Addr) (cb : Nat) (lb : List Ins) (b : BitVec 32) (w : World)
    (hsa : SlN w (.slice pa la.length ca) la) (hca : la.length ≤ ca) (_ : ca ≤ 9223372036854775807) (nila : ∀ n c, Value.slice pa la.length ca = .slice none n c → c = 0)
    (hsb : SlN w (.slice pb lb.length cb) lb) (hcb : lb.length ≤ cb) (_ : cb ≤ 9223372036854775807) (nilb : ∀ n c, Value.slice pb lb.length cb = .slice none n c → c = 0) :
    Calls Try.prog 5 #[.slice pa la.length ca, .slice pb lb.length cb, .int .u32 (b.toNat : Int)] w fun e w' => e = .returned (.bool true) ∧ Below w.heap.size w w' := by
  obtain ⟨na, hna⟩ : ∃ n, la.length = n := ⟨_, rfl⟩
  obtain ⟨nb, hnb⟩ : ∃ n, lb.length = n := ⟨_, rfl⟩
  obtain ⟨ka, hka⟩ : ∃ k, min na 30 = k := ⟨_, rfl⟩
  obtain ⟨kb, hkb⟩ : ∃ k, min nb 30 = k := ⟨_, rfl⟩
  rw [hna] at hsa hca nila ⊢
  rw [hnb] at hsb hcb nilb ⊢
  have hmina : min (na : Int) 30 = (ka : Int) := by omega
  have hminb : min (nb : Int) 30 = (kb : Int) := by omega
  have hkca : (ka : Int) ≤ (ca : Int) := by omega
  have hkcb : (kb : Int) ≤ (cb : Int) := by omega
  have hcuta := hsa.cut ka (by omega)
  have hcutb := hsb.cut kb (by omega)
  obtain ⟨A, hA⟩ : ∃ A, la.take ka = A := ⟨_, rfl⟩
  obtain ⟨B, hB⟩ : ∃ B, lb.take kb = B := ⟨_, rfl⟩
  have hAl : A.length = ka := by rw [← hA, List.length_take, hna]; omega
  have hBl : B.length = kb := by rw [← hB, List.length_take, hnb]; omega
  rw [hA] at hcuta
  rw [hB] at hcutb
  have HPA := hideE (slpN_cut (k := ka) nila (by omega) hca)
  have HPB := hideE (slpN_cut (k := kb) nilb (by omega) hcb)
  have HSA := hideE hcuta
  have HSB := hideE hcutb
  have HAL := hideE hAl
  have HBL := hideE hBl
  have hk30 : ka ≤ 30 ∧ kb ≤ 30 := by omega
  have HKK := hideE hk30
  have HOE := hideE (owns_emptyN w w.heap.size (Nat.le_refl _))
  have HSA1 := hideE (hcuta.below ((Below.refl _ w).alloc (Nat.le_refl _) (.cells #[] 23)))
  have HBD : Hid (0 + A.length ≤ 1000000) := hideE (by rw [hAl]; omega)
  have HLL := hideE HL
  clear hsa hsb nila nilb hcuta hcutb hA hB hAl hBl hna hnb hka hkb hca hcb HL hk30
  go_enter Try.func5, Try.ntmps5
  go_upto_region 4 with (refine wpList_append_insts rfl _ _ rfl w.heap.size _ 0 [] rfl HOE.out _ A rfl HSA1.out HPA.out HBD.out (by simp) ?_; intro v1 w1 hown hgr)
  have hr1 := ownN_at (l := A) hown ka (by rw [HAL.out]; omega) (by simp)
  have hb1 := ((Below.refl w.heap.size w).alloc (Nat.le_refl _) (.cells #[] 23)).grown hgr (by simp) (fun k e => (HOE.out.lt k e).1)
  obtain ⟨p1, c1, rfl⟩ := own_slice' hr1
  have HR1 := hideE hr1
  have HB1 := hideE hb1
  have HSB1 := hideE (HSB.out.below hb1)
  have HBD2 : Hid (ka + B.length ≤ 1000000) := hideE (by have := HKK.out; rw [HBL.out]; omega)
  clear hown hgr hr1 hb1 HOE HSA1 HBD
  go_upto_region 5 with (refine wpList_append_insts rfl _ _ rfl w.heap.size _ ka (csN A) rfl HR1.out _ B rfl HSB1.out HPB.out HBD2.out HB1.out.size ?_; intro v2 w2 hown hgr)
  obtain ⟨m, hm⟩ : ∃ m, (A ++ B).length = m := ⟨_, rfl⟩
  have hm2 : m = ka + kb := by rw [← hm, List.length_append, HAL.out, HBL.out]
  have hr2 := ownN_at (l := A ++ B) hown m (by rw [HBL.out, hm2]) (by rw [csN_app])
  have hb2 := HB1.out.grown hgr HB1.out.size (fun k e => (HR1.out.lt k e).1)
  obtain ⟨p2, c2, rfl⟩ := own_slice' hr2
  have hs2 : SlN w2 (.slice p2 m c2) (A ++ B) := SlN.of_owns (by rw [hm]; exact hr2)
  have HM := hideE hm
  have HM2 := hideE hm2
  refine gen_world (fun W => Below w.heap.size w W ∧ SlN W (.slice p2 m c2) (A ++ B)) ⟨hb2, hs2⟩ ?_
  clear hown hgr hr2 hb2 hs2 HR1 HB1 HSB1 HBD2 hm hm2
  rintro W0 ⟨hb0, hs0⟩
  obtain ⟨X, hX⟩ : ∃ X, backB (A ++ B) b = X := ⟨_, rfl⟩
  obtain ⟨Y, hY⟩ : ∃ Y, backB (A ++ B) (BitVec.ofNat 32 4294967295) = Y := ⟨_, rfl⟩
  obtain ⟨Z, hZ⟩ : ∃ Z, backB B b = Z := ⟨_, rfl⟩
  have hXZ : backB A Z = X := by rw [← hX, ← hZ, back_app]
  have hlen : (A ++ B).length ≤ 1000000 := by rw [HM.out, HM2.out]; have := HKK.out; omega
  have HC1 := hideE (hX ▸ HLL.out.back (A ++ B) (.slice p2 m c2) b hlen W0 hs0)
  have HC2 : Hid (∀ W, Below W0.heap.size W0 W → Calls Try.prog 12 #[.slice p2 m c2, .int .u32 4294967295] W fun e w' => e = .returned (.int .u32 (Y.toNat : Int)) ∧ Below W.heap.size W w') := hideE (fun W hW => by have h := HLL.out.back (A ++ B) (.slice p2 m c2) (BitVec.ofNat 32 4294967295) hlen W (hs0.below hW); rw [hY] at h; exact h)
  have HC3 : Hid (∀ W, Below w.heap.size w W → Calls Try.prog 12 #[.slice pb kb cb, .int .u32 (b.toNat : Int)] W fun e w' => e = .returned (.int .u32 (Z.toNat : Int)) ∧ Below W.heap.size W w') := hideE (fun W hW => by have h := HLL.out.back B (.slice pb kb cb) b (by rw [HBL.out]; have := HKK.out; omega) W (HSB.out.below hW); rw [hZ] at h; exact h)
  have HC4 : Hid (∀ W, Below w.heap.size w W → Calls Try.prog 12 #[.slice pa ka ca, .int .u32 (Z.toNat : Int)] W fun e w' => e = .returned (.int .u32 (X.toNat : Int)) ∧ Below W.heap.size W w') := hideE (fun W hW => by have h := HLL.out.back A (.slice pa ka ca) Z (by rw [HAL.out]; have := HKK.out; omega) W (HSA.out.below hW); rw [hXZ] at h; exact h)
  have HC5 := hideE (fun W => HLL.out.back [] (.slice none 0 0) b (by simp) W (sln_nil W))
  obtain ⟨b1, b2, b3⟩ := more_bits (A ++ B) b X Y hX hY
  obtain ⟨E, hE⟩ : ∃ E, backB [] b = E := ⟨_, rfl⟩
  rw [hE] at HC5 b3
  have HB0 := hideE hb0
  clear hX hY hZ hXZ hlen hs0 hb0 hE HSA HSB
  go_upto_region 6 with (go_at_call 12; refine HC1.out.mono ?_; rintro e w3 ⟨rfl, hb3⟩)
  go_upto_region 7 with (go_at_call 12; refine (HC2.out _ hb3).mono ?_; rintro e w4 ⟨rfl, hb4⟩)
  have h4 := HB0.out.trans ((hb3.trans (hb4.mono hb3.size)).mono HB0.out.size)
  have H4 := hideE h4
  clear hb3 hb4 h4 HC1 HC2 HB0
  go_wp2_with (first
    | (go_at_call_of 12 (Value.slice pb kb cb); refine (HC3.out _ H4.out).mono ?_; rintro e w5 ⟨rfl, hb5⟩; have H5 := hideE (H4.out.trans (hb5.mono H4.out.size)))
    | (go_at_call_of 12 (Value.slice pa ka ca); refine (HC4.out _ H5.out).mono ?_; rintro e w6 ⟨rfl, hb6⟩; have H6 := hideE (H5.out.trans (hb6.mono H5.out.size)))
    | (go_at_call_of 12 (Value.slice none 0 0); refine (HC5.out _).mono ?_; rintro e w7 ⟨rfl, hb7⟩)
    | (go_at_call 7; refine (fixed9_any HLL.out _).mono ?_; rintro e wf ⟨rfl, hbf⟩))
  go_ret
  have h7 := H6.out.trans (hb7.mono H6.out.size)
  exact ⟨rfl, h7.trans (hbf.mono h7.size)⟩
end Go.Proofs.Ytcffpmicencfpaa
namespace Go.Proofs.Ytcffpmicencfpaa.liveMore
open Go.ChangeShapes Go.WideShapes Go.ChangeAt Go.RowKit
open Go.ChangeMaps (open_string shut_string)
set_option linter.unusedVariables false

theorem own : ownKnob Try.prog.godebug = none := by kernel_rfl

set_option maxRecDepth 100000 in
theorem lifted (os : Os) (started : os.Started) (H : Type) (enc : TypeId × Value → H) :
    ReturnsInHanded {} Try.checked os 5 .any (Rows.liveMoreSpec.pre6 enc Try.prog Try.f5 Rows.liveMoreRow.domain false) (Rows.liveMoreSpec.post enc Try.prog Try.f5 false true false false) := by
  refine returnsInHanded_of_change (C := Try.checked) own started (by kernel_rfl) Try.func5
    (ChangeSpec.witness6 (enc := enc) (C := Try.checked) false ⟨#[], #[.slice none 0 0, .slice none 0 0, .int .u32 0], []⟩ 8 (by kernel_rfl) (by kernel_rfl) (by kernel_rfl) (by kernel_rfl)) ?_
  intro W base args ds gs before hval0 hW hcnd _
  have hval : ∀ (j : Nat) t v, Try.f5.params[j]? = some t → args[j]? = some v → Value.okWide Try.prog W .any base t v := hval0
  have hW' := hW
  obtain ⟨p, q, hA0, hV, rfl, hfz, hnd⟩ := hW
  have hA : DataW.TrodAll enc Try.prog W 0 (fun _ => true) true Try.f5.params.toList args.toList ds p := hA0
  rw [Try.params5] at hA hval
  obtain ⟨v0, vs0, d0, ds0, p0, q0, hargs, rfl, rfl, h0, r0⟩ := trodAll_cons hA
  obtain ⟨v1, vs1, d1, ds1, p1, q1, rfl, rfl, rfl, h1, r1⟩ := trodAll_cons r0
  obtain ⟨v2, vs2, d2, ds2, p2, q2, rfl, rfl, rfl, h2, r2⟩ := trodAll_cons r1
  obtain ⟨rfl, rfl, rfl⟩ := trodAll_nil r2
  obtain rfl : args = #[v0, v1, v2] := by cases args; simp_all
  obtain ⟨rfl, rfl⟩ := trodVars_none hV
  have hlt : ∀ x ∈ p0 ++ p1 ++ p2, x.block < W.heap.size := fun x hx => by simpa using hW'.lt x (by simpa using hx)
  have k0 := h0
  have l0 : ∀ x ∈ p0, x.block < W.heap.size := fun x hx => hlt x (by simp [hx])
  have k1 := h1
  have l1 : ∀ x ∈ p1, x.block < W.heap.size := fun x hx => hlt x (by simp [hx])
  have k2 := h2
  have l2 : ∀ x ∈ p2, x.block < W.heap.size := fun x hx => hlt x (by simp [hx])
  have nil0 := instsN_nil h0
  obtain ⟨pi0, ci0, li0, rfl, hsl0, hcp0, hln0⟩ := open_instsN (hval 0 24 v0 rfl rfl) h0
  have nil1 := instsN_nil h1
  obtain ⟨pi1, ci1, li1, rfl, hsl1, hcp1, hln1⟩ := open_instsN (hval 1 24 v1 rfl rfl) h1
  obtain ⟨a2, rfl, rfl, rfl, w2⟩ := open_int Try.underlying25 (hval 2 25 v2 rfl rfl) h2
  obtain ⟨x2, e2⟩ := u32_of a2 w2
  subst e2
  clear hA0 hval0
  refine (liveMore_walk lv9 pi0 ci0 li0 pi1 ci1 li1 x2 W hsl0 hcp0 hln0 nil0 hsl1 hcp1 hln1 nil1).mono fun e W' ⟨he, hg⟩ => ?_
  subst he
  exact ⟨_, rfl, _, _, _, [], _, [], hW', trodAll_mk1 (shut_bool Try.underlying4 _), (trodAll_cons_mk (Below.trod laidOut6 (by kernel_rfl) (of_decide_eq_true (by kernel_rfl)) k0 hg l0) (trodAll_cons_mk (Below.trod laidOut6 (by kernel_rfl) (of_decide_eq_true (by kernel_rfl)) k1 hg l1) (trodAll_cons_mk (Below.trod laidOut6 (by kernel_rfl) (of_decide_eq_true (by kernel_rfl)) k2 hg l2) trodAll_mk0))), rfl, hg.frame _, fun h => by cases h⟩

theorem over : Rows.liveMoreRow.holds Try.pinned (OpenSpec.ofChange Rows.liveMoreSpec) :=
  OpenClaim.holds_of_wide 5 Try.f5 rfl rfl rfl rfl rfl rfl rfl ⟨rfl, rfl, rfl, rfl, rfl⟩ rfl rfl rfl rfl rfl (by kernel_rfl) Try.func5 (by kernel_rfl)
    (of_decide_eq_true (by kernel_rfl)) (by unfold Func.isWrapper; first | (rw [if_pos (by decide +kernel)]; kernel_rfl) | (rw [if_neg (by decide +kernel)]; exact ⟨rfl, rfl⟩))
    (fun os started H enc _ => lifted os started H enc)

theorem proved : Rows.LiveMoreSaid :=
  over
#print axioms proved
end Go.Proofs.Ytcffpmicencfpaa.liveMore
