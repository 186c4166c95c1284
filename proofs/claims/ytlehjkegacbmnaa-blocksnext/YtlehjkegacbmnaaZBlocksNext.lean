/-
  BlocksNext: for any text, any entries (at most 40 words, 8 entries) and any number, which blocks stand behind the block of that number, and whether it may go elsewhere, are as the document's own answer has them.
  The walk of BlocksNext.
  The walk of BlocksMore.
-/
import Derived.Test.YtlehjkegacbmnaaRows
import Derived.WalkKit
import Derived.ProofKit
import Derived.OpenShut
import Derived.Carry
import Derived.ChangeMaps
import Derived.Test.YtlehjkegacbmnaaZC1
import Derived.Test.YtlehjkegacbmnaaZD3
import Derived.Test.YtlehjkegacbmnaaZD4
import Derived.Test.YtlehjkegacbmnaaZD6
import Derived.Test.YtlehjkegacbmnaaZD7
namespace Go.Proofs.Ytlehjkegacbmnaa
open Go.RowKit Go.Lib Go.Sort Go.Maps Ip Bl Pm
set_option linter.unusedSimpArgs false
set_option linter.unusedVariables false

theorem own_words {W : World} {B : Nat} {v : Value} {n : Nat} {xs : List Value} {l : List Nat} (h : W.ownsRow B 24 1 v n xs) (m : Nat) (hn : n = m) (hx : xs = l.map wordV) : W.ownsRow B 24 1 v m (l.map wordV) := by
  subst hn hx; exact h
theorem slw_own {W : World} {B : Nat} {v : Value} {n : Nat} {l : List Nat} (h : W.ownsRow B 24 1 v n (l.map wordV)) (hn : l.length = n) : SlW W v l := by
  subst hn; exact slw_of_owns h
theorem own_below {W W' : World} {B : Nat} {t : TypeId} {s : Nat} {p : Option Addr} {m c n : Nat} {xs : List Value} (h : W.ownsRow B t s (.slice p m c) n xs) (hb : Below W.heap.size W W') : W'.ownsRow B t s (.slice p m c) n xs :=
  h.kept (grown_of_below hb) (by cases p <;> simp [Value.ownBlock])
theorem slp_cut {p : Option Addr} {n k c : Nat} (h : SlP (.slice p n c)) (hk : k ≤ n) : SlP (.slice p k c) := by
  rcases h with e | ⟨a, m, d, e⟩
  · injection e with e1 e2 e3
    subst e1 e2 e3
    obtain rfl : k = 0 := by omega
    exact .inl rfl
  · injection e with e1 e2 e3
    subst e1
    exact .inr ⟨_, _, _, rfl⟩
theorem own_lo {W : World} {B : Nat} {t : TypeId} {s : Nat} {v : Value} {n : Nat} {xs : List Value} (h : W.ownsRow B t s v n xs) : ∀ k, v.ownBlock = some k → B ≤ k := fun k e => (h.lt k e).1
set_option maxHeartbeats 8000000 in
set_option maxRecDepth 100000 in
theorem blocksMore_walk (ba be : BitVec 32) (u : Value) (wi : List Nat) (sg : Int) (es : List Nat) (ve : Value) (x : BitVec 32) (w : World)
    (hs : SlW w u wi) (hw : ∀ n ∈ wi, n < 4294967296) (hg : SlP u) (hes : SlW w ve es) (hwe : ∀ n ∈ es, n < 4294967296) (hpe : SlP ve) :
    Calls Try.prog 7 #[.agg #[.int .u32 (ba.toNat : Int), .int .u32 (be.toNat : Int), u, .int .i64 sg], ve, .int .u32 (x.toNat : Int)] w fun e w' => e = .returned (.bool true) ∧ Below w.heap.size w w' := by
  have hbx := heap_alloc_new w (.cells #[.int .u32 (ba.toNat : Int), .int .u32 (be.toNat : Int), u, .int .i64 sg] 32)
  have hlo := (Below.refl w.heap.size w).alloc (Nat.le_refl _) (.cells #[.int .u32 (ba.toNat : Int), .int .u32 (be.toNat : Int), u, .int .i64 sg] 32)
  have HT := hideE (text_any ba be u wi sg hg _ (hs.below hlo))
  have HES := hideE hes
  have HOK := hideE (txtI_ok ba be wi hw)
  have hiw : (txtI ba be wi).words = wi.take 40 := rfl
  have HIW := hideE hiw
  have HW8 := hideE (fun a ha => hwe a (List.mem_of_mem_take ha) : ∀ a ∈ es.take 8, a < 4294967296)
  obtain ⟨nv, hnv⟩ : ∃ n, (wi.take 40).length = n := ⟨_, rfl⟩
  have HNV := hideE hnv
  obtain ⟨i, hi⟩ : ∃ i, txtI ba be wi = i := ⟨_, rfl⟩
  rw [hi] at HT HOK HIW
  have HLO := hideE hlo
  have HPE := hideE hpe
  have HEN := hideE (i.entry.isLt)
  obtain ⟨E, hE⟩ : ∃ E, i.entry.toNat = E := ⟨_, rfl⟩
  have HE := hideE hE
  have HXN := hideE x.isLt
  obtain ⟨X, hX⟩ : ∃ X, x.toNat = X := ⟨_, rfl⟩
  rw [hX] at HXN
  rw [hX]
  clear hiw hes hwe hs hw hg hi hlo hpe hnv hE hX
  go_enter Try.func7, Try.ntmps7
  go_upto_region 2 with (first
    | (refine wpList_load_row rfl 32 _ rfl w.heap.size rfl _ _ _ _ hbx Try.underlying32 rfl (by kernel_rfl) ?_)
    | (go_at_call 15; refine HT.out.mono ?_; rintro e wt ⟨v, rfl, hsv, hov, hbt⟩; obtain ⟨pv, cv, rfl, _⟩ := hsv.len; rw [HNV.out])
    | (refine wpList_store_row rfl 32 _ _ rfl w.heap.size (imgC i (.slice pv nv cv)) rfl rfl _ _ (keptN hbt hbx) (by kernel_rfl) rfl (by kernel_rfl) ?_))
  have hlt := (Array.getElem?_eq_some_iff.1 (keptN hbt hbx)).1
  rw [HNV.out] at hov
  rw [HNV.out, ← HIW.out] at hsv
  have hlow2 := below_setRowE (HLO.out.trans (hbt.mono HLO.out.size)) (Nat.le_refl _) (imgC i (.slice pv nv cv))
  refine gen_world (fun W => Mb w i (.slice pv nv cv) W ∧ SlW W ve es) ⟨⟨setRow_heap _ _ _ _ _ _ (keptN hbt hbx), hsv.set _ _ (fun k e => by have h9 := hov k e; rw [World.size_alloc] at h9; omega), hlow2, by simpa using hlt⟩, HES.out.below hlow2⟩ ?_
  clear hbx HT HLO HES hsv hbt hlt hlow2 hov
  rintro wa ⟨h1, hse⟩
  obtain ⟨p, c, rfl, hlc⟩ := hse.len
  obtain ⟨nn, hnn⟩ : ∃ n, es.length = n := ⟨_, rfl⟩
  obtain ⟨A0, hA0⟩ : ∃ l, es.take 8 = l := ⟨_, rfl⟩
  obtain ⟨k0, hk0⟩ : ∃ k, A0.length = k := ⟨_, rfl⟩
  have hmin : min (nn : Int) 8 = (k0 : Int) := by rw [← hA0, List.length_take] at hk0; omega
  rw [hnn] at hse hlc HPE
  rw [hA0] at HW8
  have hkn : k0 ≤ nn ∧ k0 ≤ 8 := by omega
  have hkc : (k0 : Int) ≤ (c : Int) := by omega
  have hse8 := slw_take hse 8 _ _ _ rfl
  rw [hA0, hk0] at hse8
  have HP0 := hideE (slp_cut HPE.out hkn.1)
  have hlw := h1.lw
  have hbx := h1.box
  have HSE := hideE hse8
  have H1 := hideE h1
  have HK0 := hideE hk0
  have HK8 := hideE hkn.2
  rw [hnn]
  clear hse hlc h1 hk0 hnn hA0 hse8 hkn HPE
  go_upto_region 4 with (first
    | (refine wpList_load_row rfl 32 _ rfl w.heap.size rfl _ _ _ _ hbx Try.underlying32 rfl (by kernel_rfl) ?_)
    | (go_at_call 17; refine (finds_any i _ _ A0 HW8.out (by rw [HK0.out]; have := HK8.out; omega) HOK.out _ hlw HSE.out).mono ?_; rintro e wb ⟨er, l, hans, u1, rfl, hrow, hb⟩; obtain ⟨q9, d9, rfl⟩ := own_slice' hrow))
  have hsl := slb_of_owns hrow
  refine gen_world (fun W => Mb w i (.slice pv nv cv) W ∧ SlW W (.slice p k0 c) A0 ∧ SlB W (.slice q9 l.length d9) l) ⟨H1.out.below hb, HSE.out.below hb, hsl⟩ ?_
  clear hbx hlw HSE H1 hrow hb hsl hmin hkc
  rintro W0 ⟨h1, hse, hsl⟩
  have H1 := hideE h1
  have HSE := hideE hse
  have HSL := hideE hsl
  have HAN := hideE hans
  have HS4 := hideE (hse.alloc (.cells #[] 24))
  have HO4 := hideE (owns_empty W0 W0.heap.size (Nat.le_refl _))
  have HB4 : Hid (0 + A0.length ≤ 1000000) := hideE (by rw [HK0.out]; have := HK8.out; omega)
  clear h1 hse hsl hans
  go_upto_region 5 with (refine wpList_append_words rfl _ _ rfl W0.heap.size _ 0 [] rfl HO4.out _ A0 rfl HS4.out HP0.out HB4.out (by simp) ?_; intro va w4 hown hgr)
  have hr := own_words (l := A0) hown k0 (by rw [HK0.out]; simp) (by simp)
  have hb := ((Below.refl W0.heap.size W0).alloc (Nat.le_refl _) (.cells #[] 24)).grown hgr (by simp) (own_lo HO4.out)
  obtain ⟨pa, ca, rfl⟩ := own_slice' hr
  refine gen_world (fun W => Below W0.heap.size W0 W ∧ W.ownsRow W0.heap.size 24 1 (.slice pa k0 ca) k0 (A0.map wordV)) ⟨hb, hr⟩ ?_
  clear hr hb hown hgr HS4 HO4 HB4
  rintro w5 ⟨hb5, hr5⟩
  obtain ⟨⟨x0, x1, x2, x3⟩, _⟩ := four (keptN hb5 H1.out.box)
  rw [HE.out] at x1
  have HB5 := hideE hb5
  have hal := (Below.refl w5.heap.size w5).alloc (Nat.le_refl _) (.cells #[.int .u32 (E : Int)] 24)
  have HO5 := hideE (own_below hr5 hal)
  have HS5 := hideE (slw_lit w5 #[.int .u32 (E : Int)] [E] rfl)
  have HL5 := hideE (hb5.trans (hal.mono hb5.size))
  have HB5b : Hid (k0 + [E].length ≤ 1000000) := hideE (by have := HK8.out; simp; omega)
  clear hal hb5 hr5 x0 x2 x3
  go_upto_region 6 with (refine wpList_append_words rfl _ _ rfl W0.heap.size _ k0 (A0.map wordV) rfl HO5.out _ [E] rfl HS5.out (.inr ⟨_, _, _, rfl⟩) HB5b.out HL5.out.size ?_; intro va w6 hown hgr)
  obtain ⟨A1, hA1⟩ : ∃ l, A0 ++ [E] = l := ⟨_, rfl⟩
  obtain ⟨k1, hk1⟩ : ∃ k, A1.length = k := ⟨_, rfl⟩
  have hk1' : k1 = k0 + 1 := by rw [← hk1, ← hA1, List.length_append, HK0.out]; rfl
  have hr := own_words (l := A1) hown k1 (by rw [hk1']; rfl) (by rw [← hA1, List.map_append])
  have hb := HL5.out.grown hgr HL5.out.size (own_lo HO5.out)
  obtain ⟨pa, ca, rfl⟩ := own_slice' hr
  refine gen_world (fun W => Below W0.heap.size W0 W ∧ W.ownsRow W0.heap.size 24 1 (.slice pa k1 ca) k1 (A1.map wordV)) ⟨hb, hr⟩ ?_
  have HK1 := hideE hk1
  have HK1' := hideE hk1'
  have HA1 := hideE hA1
  clear hr hb hown hgr HB5 HS5 HO5 HL5 HB5b x1 hk1 hk1' hA1
  rintro W1 ⟨hb5, hr5⟩
  have HB5 := hideE hb5
  have HR5 := hideE hr5
  have HS6 := hideE ((slw_own hr5 HK1.out).alloc (.cells #[] 24))
  have HP6 := hideE (slp_of_owns hr5)
  have HO6 := hideE (owns_empty W1 W1.heap.size (Nat.le_refl _))
  have HB6 : Hid (0 + A1.length ≤ 1000000) := hideE (by rw [HK1.out]; have := HK8.out; have := HK1'.out; omega)
  clear hb5 hr5
  go_upto_region 7 with (refine wpList_append_words rfl _ _ rfl W1.heap.size _ 0 [] rfl HO6.out _ A1 rfl HS6.out HP6.out HB6.out (by simp) ?_; intro va w6 hown hgr)
  have hr := own_words (l := A1) hown k1 (by rw [HK1.out]; simp) (by simp)
  have hb := ((Below.refl W1.heap.size W1).alloc (Nat.le_refl _) (.cells #[] 24)).grown hgr (by simp) (own_lo HO6.out)
  obtain ⟨pt, ct, rfl⟩ := own_slice' hr
  refine gen_world (fun W => Below W1.heap.size W1 W ∧ W.ownsRow W1.heap.size 24 1 (.slice pt k1 ct) k1 (A1.map wordV)) ⟨hb, hr⟩ ?_
  clear hr hb hown hgr HS6 HO6 HB6 HP6
  rintro w7 ⟨hb7, hr7⟩
  have hb7' := HB5.out.trans (hb7.mono HB5.out.size)
  have HB7 := hideE hb7
  have HR7 := hideE hr7
  have HS7 := hideE (HSE.out.below hb7')
  have HB7b : Hid (k1 + A0.length ≤ 1000000) := hideE (by rw [HK0.out]; have := HK8.out; have := HK1'.out; omega)
  clear hb7 hr7 hb7'
  go_upto_region 8 with (refine wpList_append_words rfl _ _ rfl W1.heap.size _ k1 (A1.map wordV) rfl HR7.out _ A0 rfl HS7.out HP0.out HB7b.out HB7.out.size ?_; intro va w8 hown hgr)
  obtain ⟨A2, hA2⟩ : ∃ l, A1 ++ A0 = l := ⟨_, rfl⟩
  obtain ⟨k2, hk2⟩ : ∃ k, A2.length = k := ⟨_, rfl⟩
  have hk2' : k2 = k1 + k0 := by rw [← hk2, ← hA2, List.length_append, HK0.out, HK1.out]
  have hr := own_words (l := A2) hown k2 (by rw [hk2', HK0.out]) (by rw [← hA2, List.map_append])
  have hb := HB7.out.grown hgr HB7.out.size (own_lo HR7.out)
  obtain ⟨pt, ct, rfl⟩ := own_slice' hr
  refine gen_world (fun W => Below W1.heap.size W1 W ∧ W.ownsRow W1.heap.size 24 1 (.slice pt k2 ct) k2 (A2.map wordV)) ⟨hb, hr⟩ ?_
  have HK2 := hideE hk2
  have HK2' := hideE hk2'
  have HA2 := hideE hA2
  clear hr hb hown hgr HB7 HR7 HS7 HB7b hk2 hk2' hA2
  rintro w9 ⟨hb9, hr9⟩
  have hb9' := HB5.out.trans (hb9.mono HB5.out.size)
  have hbx := keptN hb9' H1.out.box
  have hlw := H1.out.lw.below hb9'
  have HS9 := hideE (slw_own hr9 HK2.out)
  have HB9 := hideE hb9
  have HM2 : Hid (∀ a ∈ A2, a < 4294967296) := hideE (fun a ha => by
    rw [← HA2.out, ← HA1.out] at ha
    simp only [List.mem_append, List.mem_singleton] at ha
    have hen := HEN.out
    rcases ha with (ha | rfl) | ha
    · exact HW8.out a ha
    · rw [← HE.out]; exact hen
    · exact HW8.out a ha)
  clear hb9 hr9 hb9'
  go_upto_region 9 with (first
    | (refine wpList_load_row rfl 32 _ rfl w.heap.size rfl _ _ _ _ hbx Try.underlying32 rfl (by kernel_rfl) ?_)
    | (go_at_call 17; refine (finds_any i _ _ A2 HM2.out (by rw [HK2.out]; have := HK8.out; have := HK1'.out; have := HK2'.out; omega) HOK.out _ hlw HS9.out).mono ?_; rintro e wb ⟨er2, l2, hans, u2, rfl, hrow, hb⟩; obtain ⟨q2, d2, rfl⟩ := own_slice' hrow))
  have hsame : ∀ a, a ∈ seedsI i A0 ↔ a ∈ seedsI i A2 := fun a => by
    rw [← HA2.out, ← HA1.out]
    unfold seedsI
    rw [HE.out]
    simp only [List.mem_cons, List.mem_append, List.not_mem_nil, or_false]
    constructor
    · rintro (h | h)
      · exact .inl h
      · exact .inr (.inl (.inl h))
    · rintro (h | (h | h) | h)
      · exact .inl h
      · exact .inr h
      · exact .inl h
      · exact .inr h
  obtain ⟨rfl, rfl⟩ := HAN.out.same hans hsame
  have hb9' := HB9.out.trans (hb.mono HB9.out.size)
  refine gen_world (fun W => Below W1.heap.size W1 W ∧ SlB W (.slice q2 l.length d2) l) ⟨hb9', slb_of_owns hrow⟩ ?_
  have HFEW : Hid (l.length ≤ 4000000) := hideE (Nat.le_trans (AnsF.few HAN.out).1 (Nat.le_trans HOK.out.2.2.1 (by decide)))
  clear hbx hlw HS9 HB9 HM2 hrow hb hb9' hans hsame
  rintro w10 ⟨hb2, hs2⟩
  have hb02 := HB5.out.trans (hb2.mono HB5.out.size)
  have HSL2 := hideE (HSL.out.below hb02)
  have HS2 := hideE hs2
  have HB2 := hideE hb2
  clear hb2 hs2 hb02
  go_upto_region 11 with (go_at_call 18; refine (rsame8_yes l _ _ HFEW.out _ HSL2.out HS2.out).mono ?_; rintro e wb ⟨rfl, hb⟩)
  have hb9' := HB2.out.trans (hb.mono HB2.out.size)
  refine gen_world (fun W => Below W1.heap.size W1 W) hb9' ?_
  clear HSL2 HS2 HB2 hb hb9'
  intro w11 hb11
  have hal := (Below.refl w11.heap.size w11).alloc (Nat.le_refl _) (.cells #[.int .u32 (X : Int)] 24)
  have HO11 := hideE (own_below (own_below HR5.out hb11) hal)
  have HS11 := hideE (slw_lit w11 #[.int .u32 (X : Int)] [X] rfl)
  have hb02 := HB5.out.trans (hb11.mono HB5.out.size)
  have HL11 := hideE (hb02.trans (hal.mono hb02.size))
  have HB11b : Hid (k1 + [X].length ≤ 1000000) := hideE (by have := HK8.out; have := HK1'.out; simp; omega)
  clear hal hb11 hb02
  go_upto_region 12 with (refine wpList_append_words rfl _ _ rfl W0.heap.size _ k1 (A1.map wordV) rfl HO11.out _ [X] rfl HS11.out (.inr ⟨_, _, _, rfl⟩) HB11b.out HL11.out.size ?_; intro vb w6 hown hgr)
  obtain ⟨A3, hA3⟩ : ∃ l, A1 ++ [X] = l := ⟨_, rfl⟩
  obtain ⟨k3, hk3⟩ : ∃ k, A3.length = k := ⟨_, rfl⟩
  have hk3' : k3 = k1 + 1 := by rw [← hk3, ← hA3, List.length_append, HK1.out]; rfl
  have hr := own_words (l := A3) hown k3 (by rw [hk3']; rfl) (by rw [← hA3, List.map_append])
  have hb := HL11.out.grown hgr HL11.out.size (own_lo HO11.out)
  obtain ⟨pb, cb, rfl⟩ := own_slice' hr
  refine gen_world (fun W => Below W0.heap.size W0 W ∧ SlW W (.slice pb k3 cb) A3) ⟨hb, slw_own hr hk3⟩ ?_
  have HK3 : Hid (A3.length ≤ 1000) := hideE (by have := HK8.out; have := HK1'.out; omega)
  have HA3 := hideE hA3
  clear hr hb hown hgr HS11 HO11 HL11 HB11b hk3 hk3' hA3
  rintro w12 ⟨hb12, hs12⟩
  have hbx := keptN hb12 H1.out.box
  have hlw := H1.out.lw.below hb12
  have HS12 := hideE hs12
  have HB12 := hideE hb12
  have HM3 : Hid (∀ a ∈ A3, a < 4294967296) := hideE (fun a ha => by
    rw [← HA3.out, ← HA1.out] at ha
    simp only [List.mem_append, List.mem_singleton] at ha
    have hen := HEN.out
    rcases ha with (ha | rfl) | rfl
    · exact HW8.out a ha
    · rw [← HE.out]; exact hen
    · exact HXN.out)
  clear hb12 hs12
  go_upto_region 13 with (first
    | (refine wpList_load_row rfl 32 _ rfl w.heap.size rfl _ _ _ _ hbx Try.underlying32 rfl (by kernel_rfl) ?_)
    | (go_at_call 17; refine (finds_any i _ _ A3 HM3.out HK3.out HOK.out _ hlw HS12.out).mono ?_; rintro e wb ⟨er3, l3, hans3, u3, rfl, hrow, hb⟩; obtain ⟨q3, d3, rfl⟩ := own_slice' hrow))
  have hsub : ∀ a ∈ seedsI i A0, a ∈ seedsI i A3 := fun a ha => by
    rw [← HA3.out, ← HA1.out]
    unfold seedsI at ha ⊢
    simp only [List.mem_cons, List.mem_append] at ha ⊢
    rcases ha with ha | ha
    · exact .inl ha
    · exact .inr (.inl (.inl ha))
  have hmore := fun h => AnsF.more (txI_fair HOK.out) HAN.out hans3 hsub h
  have hfew := (AnsF.few HAN.out)
  have hfew3 := (AnsF.few hans3)
  have hn0 : (txI i).n ≤ 1000000 := HOK.out.2.2.1
  have hbl := HB12.out.trans (hb.mono HB12.out.size)
  refine gen_world (fun W => Below w.heap.size w W ∧ SlB W (.slice q9 l.length d9) l ∧ SlB W (.slice q3 l3.length d3) l3) ⟨H1.out.low.trans (hbl.mono H1.out.low.size), HSL.out.below hbl, slb_of_owns hrow⟩ ?_
  clear hbx hlw HS12 HB12 HM3 hrow hb hbl hans3 hsub HFEW
  rintro W3 ⟨hlow, hsa, hsb⟩
  have HLW := hideE hlow
  clear hlow HAN HK3 HA3 HSL HB5 HR5 HSE H1 HA1 HA2 HK2 HK2' HK1 HK1' HK0 HK8 HP0 HEN HE HXN HW8 HOK HIW HNV
  by_cases h3 : er3 = 0
  · obtain ⟨h0, hsum, hlen⟩ := hmore h3
    have z1 : ((er : Nat) : Int) = 0 := by omega
    have z3 : ((er3 : Nat) : Int) = 0 := by omega
    rw [z1, z3]
    obtain ⟨n1, hn1⟩ : ∃ n, l.length = n := ⟨_, rfl⟩
    obtain ⟨n3, hn3⟩ : ∃ n, l3.length = n := ⟨_, rfl⟩
    rw [hn1] at hsa hlen hfew
    rw [hn3] at hsb hlen hfew3
    rw [hn1, hn3]
    have HSA := hideE hsa
    have HSB := hideE hsb
    have HN1 := hideE hn1
    have HN3 := hideE hn3
    have HF := hideE hfew
    have HF3 := hideE hfew3
    have HT0 := hideE hn0
    have HSU := hideE hsum
    have HLE := hideE hlen
    clear hmore z1 z3 h0 h3 hsa hsb hn1 hn3 hfew hfew3 hn0 hsum hlen
    go_upto_region 17 with fail
    go_loopg [15, 17] n1 (fun q s j wr => ∃ k : Nat, k + q = n1 ∧ s = .int .i64 (sumN (l.take k) : Int) ∧ j = .int .i64 (k : Int) ∧ Below W3.heap.size W3 wr)
    case atStart => exact ⟨0, by omega, rfl, rfl, Below.refl _ _⟩
    case round =>
      obtain ⟨k, hkq, rfl, rfl, hT⟩ := hrel
      cases gk with
      | zero =>
        obtain rfl : k = n1 := by omega
        have hk : ¬ ((k : Int) < (k : Int)) := by omega
        have HTw := hideE hT
        clear hT
        rw [List.take_of_length_le (by rw [HN1.out]; omega)]
        go_upto_region 21 with fail
        go_loopg [16, 18] n3 (fun q s j wz => ∃ m : Nat, m + q = n3 ∧ s = .int .i64 (sumN (l3.take m) : Int) ∧ j = .int .i64 (m : Int) ∧ Below W3.heap.size W3 wz)
        case atStart => exact ⟨0, by omega, rfl, rfl, HTw.out⟩
        case round =>
          obtain ⟨m, hmq, rfl, rfl, hT⟩ := hrel
          cases gk with
          | zero =>
            obtain rfl : m = n3 := by omega
            have hm : ¬ ((m : Int) < (m : Int)) := by omega
            have HTz := hideE hT
            clear hT
            rw [List.take_of_length_le (by rw [HN3.out]; omega)]
            have hge : (sumN l : Int) ≤ (sumN l3 : Int) := by have := HSU.out; omega
            have hgl : (k : Int) ≤ (m : Int) := by have := HLE.out; omega
            go_wp2_with (go_at_call 9; refine (fixed8_any _).mono ?_; rintro e wf ⟨rfl, hbf⟩)
            go_ret
            have h9 := HLW.out.trans (HTz.out.mono HLW.out.size)
            exact ⟨rfl, h9.trans (hbf.mono h9.size)⟩
          | succ q =>
            have hk : ((m : Int) < (n3 : Int)) := by omega
            have hk0 : (0 : Int) ≤ (m : Int) := by omega
            obtain ⟨u, hu⟩ : ∃ u, l3[m]? = some u := ⟨l3[m]'(by rw [HN3.out]; omega), List.getElem?_eq_getElem (by rw [HN3.out]; omega)⟩
            obtain ⟨g, rfl, a3, a4⟩ := (HSB.out.below hT).at hu
            obtain ⟨v1, v2⟩ := u
            simp only at a3 a4
            have hst := sumN_take l3 m hu
            have hsl := sumN_le l3 (m + 1)
            have hff := HF3.out.2
            have htt := HT0.out
            have hkb := HF3.out.1
            have hwk : IntKind.i64.wrap ((m : Int) + 1) = (m : Int) + 1 := wrE (by omega) (by omega)
            have hws : IntKind.i64.wrap ((sumN (l3.take m) : Int) + (v2 : Int)) = (sumN (l3.take (m + 1)) : Int) := by
              rw [hst, wrE (by simp only at hst; omega) (by simp only at hst; omega)]; simp
            have HTq := hideE hT
            clear hT hst hsl hff htt hkb hu a3
            go_wp2_with fail
            go_roundg q
            case measure => omega
            case rel => exact ⟨m + 1, by omega, rfl, by simp, HTq.out⟩
      | succ q =>
        have hk : ((k : Int) < (n1 : Int)) := by omega
        have hk0 : (0 : Int) ≤ (k : Int) := by omega
        obtain ⟨u, hu⟩ : ∃ u, l[k]? = some u := ⟨l[k]'(by rw [HN1.out]; omega), List.getElem?_eq_getElem (by rw [HN1.out]; omega)⟩
        obtain ⟨g, rfl, a3, a4⟩ := (HSA.out.below hT).at hu
        obtain ⟨v1, v2⟩ := u
        simp only at a3 a4
        have hst := sumN_take l k hu
        have hsl := sumN_le l (k + 1)
        have hff := HF.out.2
        have htt := HT0.out
        have hkb := HF.out.1
        have hwk : IntKind.i64.wrap ((k : Int) + 1) = (k : Int) + 1 := wrE (by omega) (by omega)
        have hws : IntKind.i64.wrap ((sumN (l.take k) : Int) + (v2 : Int)) = (sumN (l.take (k + 1)) : Int) := by
          rw [hst, wrE (by simp only at hst; omega) (by simp only at hst; omega)]; simp
        have HTq := hideE hT
        clear hT hst hsl hff htt hkb hu a3
        go_wp2_with fail
        go_roundg q
        case measure => omega
        case rel => exact ⟨k + 1, by omega, rfl, by simp, HTq.out⟩
  · by_cases h0 : er = 0
    · have z1 : ((er : Nat) : Int) = 0 := by omega
      have z3 : ¬ ((er3 : Nat) : Int) = 0 := by omega
      rw [z1]
      clear hmore h0 h3 hsa hsb hfew hfew3 hn0 z1
      go_wp2_with (go_at_call 9; refine (fixed8_any _).mono ?_; rintro e wf ⟨rfl, hbf⟩)
      go_ret
      exact ⟨rfl, HLW.out.trans (hbf.mono HLW.out.size)⟩
    · have z1 : ¬ ((er : Nat) : Int) = 0 := by omega
      have z3 : ¬ ((er3 : Nat) : Int) = 0 := by omega
      clear hmore h0 h3 hsa hsb hfew hfew3 hn0
      go_wp2_with (go_at_call 9; refine (fixed8_any _).mono ?_; rintro e wf ⟨rfl, hbf⟩)
      go_ret
      exact ⟨congrArg (fun t => Ending.returned (.bool t)) (by rw [show (((er3 : Nat) : Int) != 0) = true from bne_iff_ne.2 z3, Bool.or_true]), HLW.out.trans (hbf.mono HLW.out.size)⟩
end Go.Proofs.Ytlehjkegacbmnaa
namespace Go.Proofs.Ytlehjkegacbmnaa
open Go.RowKit Go.Lib Go.Sort Go.Maps Ip Bl Pm
set_option linter.unusedSimpArgs false
set_option linter.unusedVariables false

theorem fit_of {i : Img} {es : List Nat} {l : List (Nat × Nat)} (hi : i.ok) (h : AnsF (txI i) (seedsI i es) 0 l) : FitB l := by
  have hw := whole_of hi h
  have hf := (AnsF.few h).1
  have hn : (txI i).n = i.words.length := rfl
  have h1 := hi.2.2.1
  refine ⟨?_, fun b hb => by have := hw.small b hb; omega, fun b hb => by have := hw.small b hb; omega, by omega⟩
  obtain ⟨L, hc, h0, hl⟩ := h
  rw [if_pos rfl] at hl
  obtain ⟨ht, -⟩ := tiles (txI i) (seedsI i es) L (txI i).n
  rw [hl]
  unfold RiseB adrL
  rw [List.pairwise_map]
  refine ht.rise.imp_of_mem fun {a b} ha hb hr => ?_
  have := (ht.pos a ha).1
  show (txI i).adr a.1 < (txI i).adr b.1
  unfold Tx.adr
  omega
theorem le_of_nxt (i : Img) (l : List (Nat × Nat)) (k : Int) (h : FitB l) : (nextV i l k).1.length ≤ 4000000 := by
  have h1 := h.len
  unfold nextV
  split
  · show (nxtL l _).length ≤ _
    unfold nxtL
    have := List.length_filter_le (fun j => (aftI (insA i (lastA (l.getD k.toNat (0, 0)))) (lastA (l.getD k.toNat (0, 0)))).contains (l.getD j (0, 0)).1) (List.range l.length)
    rw [List.length_range] at this
    omega
  · simp
set_option maxHeartbeats 8000000 in
set_option maxRecDepth 100000 in
theorem blocksNext_walk (ba be : BitVec 32) (u : Value) (wi : List Nat) (sg : Int) (es : List Nat) (ve : Value) (kk : Int) (w : World)
    (hs : SlW w u wi) (hw : ∀ n ∈ wi, n < 4294967296) (hg : SlP u) (hes : SlW w ve es) (hwe : ∀ n ∈ es, n < 4294967296) (hpe : SlP ve) (hkk : -9223372036854775808 ≤ kk ∧ kk ≤ 9223372036854775807) :
    Calls Try.prog 5 #[.agg #[.int .u32 (ba.toNat : Int), .int .u32 (be.toNat : Int), u, .int .i64 sg], ve, .int .i64 kk] w fun e w' => e = .returned (.bool true) ∧ Below w.heap.size w w' := by
  have hbx := heap_alloc_new w (.cells #[.int .u32 (ba.toNat : Int), .int .u32 (be.toNat : Int), u, .int .i64 sg] 32)
  have hlo := (Below.refl w.heap.size w).alloc (Nat.le_refl _) (.cells #[.int .u32 (ba.toNat : Int), .int .u32 (be.toNat : Int), u, .int .i64 sg] 32)
  have HT := hideE (text_any ba be u wi sg hg _ (hs.below hlo))
  have HES := hideE hes
  have HOK := hideE (txtI_ok ba be wi hw)
  have hiw : (txtI ba be wi).words = wi.take 40 := rfl
  have HIW := hideE hiw
  have HW8 := hideE (fun a ha => hwe a (List.mem_of_mem_take ha) : ∀ a ∈ es.take 8, a < 4294967296)
  obtain ⟨nv, hnv⟩ : ∃ n, (wi.take 40).length = n := ⟨_, rfl⟩
  have HNV := hideE hnv
  obtain ⟨i, hi⟩ : ∃ i, txtI ba be wi = i := ⟨_, rfl⟩
  rw [hi] at HT HOK HIW
  have HLO := hideE hlo
  have HPE := hideE hpe
  have HEN := hideE (i.entry.isLt)
  obtain ⟨E, hE⟩ : ∃ E, i.entry.toNat = E := ⟨_, rfl⟩
  have HE := hideE hE
  have HKK := hideE hkk
  clear hiw hes hwe hs hw hg hi hlo hpe hnv hE hkk
  go_enter Try.func5, Try.ntmps5
  go_upto_region 2 with (first
    | (refine wpList_load_row rfl 32 _ rfl w.heap.size rfl _ _ _ _ hbx Try.underlying32 rfl (by kernel_rfl) ?_)
    | (go_at_call 15; refine HT.out.mono ?_; rintro e wt ⟨v, rfl, hsv, hov, hbt⟩; obtain ⟨pv, cv, rfl, _⟩ := hsv.len; rw [HNV.out])
    | (refine wpList_store_row rfl 32 _ _ rfl w.heap.size (imgC i (.slice pv nv cv)) rfl rfl _ _ (keptN hbt hbx) (by kernel_rfl) rfl (by kernel_rfl) ?_))
  have hlt := (Array.getElem?_eq_some_iff.1 (keptN hbt hbx)).1
  rw [HNV.out] at hov
  rw [HNV.out, ← HIW.out] at hsv
  have hlow2 := below_setRowE (HLO.out.trans (hbt.mono HLO.out.size)) (Nat.le_refl _) (imgC i (.slice pv nv cv))
  refine gen_world (fun W => Mb w i (.slice pv nv cv) W ∧ SlW W ve es) ⟨⟨setRow_heap _ _ _ _ _ _ (keptN hbt hbx), hsv.set _ _ (fun k e => by have h9 := hov k e; rw [World.size_alloc] at h9; omega), hlow2, by simpa using hlt⟩, HES.out.below hlow2⟩ ?_
  clear hbx HT HLO HES hsv hbt hlt hlow2 hov
  rintro wa ⟨h1, hse⟩
  obtain ⟨p, c, rfl, hlc⟩ := hse.len
  obtain ⟨nn, hnn⟩ : ∃ n, es.length = n := ⟨_, rfl⟩
  obtain ⟨A0, hA0⟩ : ∃ l, es.take 8 = l := ⟨_, rfl⟩
  obtain ⟨k0, hk0⟩ : ∃ k, A0.length = k := ⟨_, rfl⟩
  have hmin : min (nn : Int) 8 = (k0 : Int) := by rw [← hA0, List.length_take] at hk0; omega
  rw [hnn] at hse hlc HPE
  rw [hA0] at HW8
  have hkn : k0 ≤ nn ∧ k0 ≤ 8 := by omega
  have hkc : (k0 : Int) ≤ (c : Int) := by omega
  have hse8 := slw_take hse 8 _ _ _ rfl
  rw [hA0, hk0] at hse8
  have HP0 := hideE (slp_cut HPE.out hkn.1)
  have HSE := hideE hse8
  have H1 := hideE h1
  have HK0 := hideE hk0
  have HK8 := hideE hkn.2
  rw [hnn]
  clear hse hlc h1 hk0 hnn hA0 hse8 hkn HPE
  go_upto_region 2 with fail
  refine wp_region_noPanic ?_
  refine wp_region_held_drew (S := (fun W => Mb w i (.slice pv nv cv) W ∧ SlW W (.slice p k0 c) A0)) (by kernel_rfl) ⟨H1.out.below (Below.refl _ _).drew, HSE.out.below (Below.refl _ _).drew⟩ (fun h0 => ?_)
  refine wpAnyH_takeAt (i := 0) (v := .agg (imgC i (.slice pv nv cv))) rfl (by kernel_rfl) (by kernel_rfl) (by kernel_rfl) (fun _ _ _ h => h) (yieldsIf_row (by rfl) _ _ rfl w.heap.size rfl _ _ _ _ (fun _ h => h.1.box) Try.underlying32 rfl (by kernel_rfl)) h0 ?_
  simp only [Act.put, List.setIfInBounds_toArray, List.set_cons_zero, List.set_cons_succ]
  refine wpAnyH_takeAt (i := 1) (v := ?_) rfl (by kernel_rfl) (by kernel_rfl) (by kernel_rfl) (fun _ _ _ h => h) (Or.inl ⟨by rfl, ?_⟩) h0 ?_
  rotate_left 1
  · intro w' hS; clear hS
    go_simp <;> with_reducible rfl
  try simp only [Act.put, List.setIfInBounds_toArray, List.set_cons_zero, List.set_cons_succ]
  refine wpAnyH_takeAt (i := 2) (v := ?_) rfl (by kernel_rfl) (by kernel_rfl) (by kernel_rfl) (fun _ _ _ h => h) (Or.inl ⟨by rfl, ?_⟩) h0 ?_
  rotate_left 1
  · intro w' hS; clear hS
    go_simp <;> with_reducible rfl
  try simp only [Act.put, List.setIfInBounds_toArray, List.set_cons_zero, List.set_cons_succ]
  refine wpAnyH_takeAt (i := 3) (v := ?_) rfl (by kernel_rfl) (by kernel_rfl) (by kernel_rfl) (fun _ _ _ h => h) (Or.inl ⟨by rfl, ?_⟩) h0 ?_
  rotate_left 1
  · intro w' hS; clear hS
    go_simp <;> with_reducible rfl
  try simp only [Act.put, List.setIfInBounds_toArray, List.set_cons_zero, List.set_cons_succ]
  refine wpAnyH_takeAt (i := 4) (v := ?_) rfl (by kernel_rfl) (by kernel_rfl) (by kernel_rfl) (fun _ _ _ h => h) (Or.inl ⟨by rfl, ?_⟩) h0 ?_
  rotate_left 1
  · intro w' hS; clear hS
    go_simp <;> with_reducible rfl
  try simp only [Act.put, List.setIfInBounds_toArray, List.set_cons_zero, List.set_cons_succ]
  refine wpAnyH_takeAt (i := 5) (v := ?_) rfl (by kernel_rfl) (by kernel_rfl) (by kernel_rfl) (fun _ _ _ h => h) (Or.inl ⟨by rfl, ?_⟩) h0 ?_
  rotate_left 1
  · intro w' hS; clear hS
    go_simp <;> with_reducible rfl
  try simp only [Act.put, List.setIfInBounds_toArray, List.set_cons_zero, List.set_cons_succ]
  refine wpAnyH_ready (rs := [6]) (by kernel_rfl) (by simp) (allReady_at rfl (fun K hK => ?_))
  go_simp
  refine (rfind_any i _ _ A0 HW8.out (by rw [HK0.out]; have := HK8.out; omega) HOK.out _ h0.1.lw h0.2).mono ?_
  rintro e wb ⟨er, l, hans, u1, rfl, hrow, hb⟩
  dsimp only
  obtain ⟨q9, d9, rfl⟩ := own_slice' hrow
  have h1 : (fun W => Mb w i (.slice pv nv cv) W ∧ SlW W (.slice p k0 c) A0) wb := ⟨h0.1.below hb, h0.2.below hb⟩
  refine hK.out _ _ h1 (fun _ => ?_)
  clear hK K
  try simp only [Act.put, List.setIfInBounds_toArray, List.set_cons_zero, List.set_cons_succ]
  refine wpAnyH_takeAt (i := 7) (v := ?_) rfl (by kernel_rfl) (by kernel_rfl) (by kernel_rfl) (fun _ _ _ h => h) (Or.inl ⟨by rfl, ?_⟩) h1 ?_
  rotate_left 1
  · intro w' hS; clear hS
    go_simp <;> with_reducible rfl
  try simp only [Act.put, List.setIfInBounds_toArray, List.set_cons_zero, List.set_cons_succ]
  refine wpAnyH_takeAt (i := 8) (v := ?_) rfl (by kernel_rfl) (by kernel_rfl) (by kernel_rfl) (fun _ _ _ h => h) (Or.inl ⟨by rfl, ?_⟩) h1 ?_
  rotate_left 1
  · intro w' hS; clear hS
    go_simp <;> with_reducible rfl
  try simp only [Act.put, List.setIfInBounds_toArray, List.set_cons_zero, List.set_cons_succ]
  refine wpAnyH_takeAt (i := 9) (v := ?_) rfl (by kernel_rfl) (by kernel_rfl) (by kernel_rfl) (fun _ _ _ h => h) (Or.inl ⟨by rfl, ?_⟩) h1 ?_
  rotate_left 1
  · intro w' hS; clear hS
    go_simp <;> with_reducible rfl
  try simp only [Act.put, List.setIfInBounds_toArray, List.set_cons_zero, List.set_cons_succ]
  refine wpAnyH_takeAt (i := 10) (v := ?_) rfl (by kernel_rfl) (by kernel_rfl) (by kernel_rfl) (fun _ _ _ h => h) (Or.inl ⟨by rfl, ?_⟩) h1 ?_
  rotate_left 1
  · intro w' hS; clear hS
    go_simp <;> with_reducible rfl
  try simp only [Act.put, List.setIfInBounds_toArray, List.set_cons_zero, List.set_cons_succ]
  refine wpAnyH_takeAt (i := 11) (v := ?_) rfl (by kernel_rfl) (by kernel_rfl) (by kernel_rfl) (fun _ _ _ h => h) (Or.inl ⟨by rfl, ?_⟩) h1 ?_
  rotate_left 1
  · intro w' hS; clear hS
    go_simp <;> with_reducible rfl
  try simp only [Act.put, List.setIfInBounds_toArray, List.set_cons_zero, List.set_cons_succ]
  refine wpAnyH_done (by kernel_rfl) ?_ _
  refine NoPanic.normal ?_
  refine gen_world (fun W => Mb w i (.slice pv nv cv) W ∧ SlB W (.slice q9 l.length d9) l) ⟨h1.1, slb_of_owns hrow⟩ ?_
  clear h0 h1 hrow hb hmin hkc HSE H1
  rintro W0 ⟨h1, hsl⟩
  by_cases h0 : er = 0
  · have hz : ((er : Int) != 0) = false := by rw [h0]; rfl
    have HFI : Hid (FitB l) := fit_of HOK.out (h0 ▸ hans)
    have hbx := h1.box
    have HLW := hideE h1.lw
    have HSB := hideE hsl
    have HLO := hideE h1.low
    have HB0 := hideE h1.box
    have HNL := hideE (le_of_nxt i l kk HFI.out)
    clear h0 hans h1 hsl
    go_upto_region 6 with (first
      | (refine wpList_load_row rfl 32 _ rfl w.heap.size rfl _ _ _ _ hbx Try.underlying32 rfl (by kernel_rfl) ?_)
      | (go_at_call 19; refine (next_any i _ _ l kk HKK.out.1 HKK.out.2 HFI.out HOK.out _ HLW.out HSB.out).mono ?_; rintro e wa ⟨u2, rfl, hn2, hb2⟩))
    have hbx2 := keptN hb2 HB0.out
    have HSI := hideE (sli_of_owns hn2)
    have HB2 := hideE hb2
    clear hbx hn2 hb2
    go_upto_region 7 with (first
      | (refine wpList_load_row rfl 32 _ rfl w.heap.size rfl _ _ _ _ hbx2 Try.underlying32 rfl (by kernel_rfl) ?_)
      | (go_at_call 20; refine (rnext_any i _ _ l kk HKK.out.1 HKK.out.2 HFI.out HOK.out _ (HLW.out.below HB2.out) (HSB.out.below HB2.out)).mono ?_; rintro e wc ⟨u3, rfl, hn3, hb3⟩))
    have HS3 := hideE (rnums8_yes (nextV i l kk).1 u2 u3 HNL.out wc (HSI.out.below hb3) (sli_of_owns hn3))
    have HB3 := hideE (HLO.out.trans ((HB2.out.trans (hb3.mono HB2.out.size)).mono HLO.out.size))
    clear hbx2 hn3 hb3
    obtain ⟨aw, haw⟩ : ∃ aw, (nextV i l kk).2 = aw := ⟨_, rfl⟩
    rw [haw]
    clear haw
    have hee : (aw == aw) = true := by simp
    go_wp2_with (first
      | (go_at_call 21; refine HS3.out.mono ?_; rintro e wd ⟨rfl, hbd⟩)
      | (go_at_call 9; refine (fixed8_any _).mono ?_; rintro e wf ⟨rfl, hbf⟩))
    go_ret
    have h9 := HB3.out.trans (hbd.mono HB3.out.size)
    exact ⟨rfl, h9.trans (hbf.mono h9.size)⟩
  · have hz : ((er : Int) != 0) = true := bne_iff_ne.2 (by omega)
    have hlow := h1.low
    clear h0 hans h1 hsl
    go_wp2_with (go_at_call 9; refine (fixed8_any _).mono ?_; rintro e wf ⟨rfl, hbf⟩)
    go_ret
    exact ⟨rfl, hlow.trans (hbf.mono hlow.size)⟩
end Go.Proofs.Ytlehjkegacbmnaa
namespace Go.Proofs.Ytlehjkegacbmnaa.blocksNext
open Go.ChangeShapes Go.WideShapes Go.ChangeAt Go.RowKit
open Go.ChangeMaps (open_string shut_string)
set_option linter.unusedVariables false

theorem own : ownKnob Try.prog.godebug = none := by kernel_rfl

set_option maxRecDepth 100000 in
theorem lifted (os : Os) (started : os.Started) (H : Type) (enc : TypeId × Value → H) :
    ReturnsInHanded {} Try.checked os 5 .any (Rows.blocksNextSpec.pre6 enc Try.prog Try.f5 Rows.blocksNextRow.domain false) (Rows.blocksNextSpec.post enc Try.prog Try.f5 false true false false) := by
  refine returnsInHanded_of_change (C := Try.checked) own started (by kernel_rfl) Try.func5
    (ChangeSpec.witness6 (enc := enc) (C := Try.checked) false ⟨#[], #[.agg #[.int .u32 0, .int .u32 0, .slice none 0 0, .int .i64 0], .slice none 0 0, .int .i64 0], []⟩ 8 (by kernel_rfl) (by kernel_rfl) (by kernel_rfl) (by kernel_rfl)) ?_
  intro W base args ds gs before hval0 hW hcnd _
  have hval : ∀ (j : Nat) t v, Try.f5.params[j]? = some t → args[j]? = some v → Value.okWide Try.prog W .any base t v := hval0
  have hW' := hW
  obtain ⟨p, q, hA0, hV, rfl, hfz, hnd⟩ := hW
  have hA : DataW.TrodAll enc Try.prog W 0 (fun _ => true) true Try.f5.params.toList args.toList ds p := hA0
  rw [Try.params5] at hA hval
  obtain ⟨v0, vs0, d0, ds0, p0, q0, hargs, rfl, rfl, h0, r0⟩ := trodAll_cons hA
  obtain ⟨v1, vs1, d1, ds1, p1, q1, rfl, rfl, rfl, h1, r1⟩ := trodAll_cons r0
  obtain ⟨v2, vs2, d2, ds2, p2, q2, rfl, rfl, rfl, h2, r2⟩ := trodAll_cons r1
  obtain ⟨rfl, rfl, rfl⟩ := trodAll_nil r2
  obtain rfl : args = #[v0, v1, v2] := by cases args; simp_all
  obtain ⟨rfl, rfl⟩ := trodVars_none hV
  have hlt : ∀ x ∈ p0 ++ p1 ++ p2, x.block < W.heap.size := fun x hx => by simpa using hW'.lt x (by simpa using hx)
  have k0 := h0
  have l0 : ∀ x ∈ p0, x.block < W.heap.size := fun x hx => hlt x (by simp [hx])
  have k1 := h1
  have l1 : ∀ x ∈ p1, x.block < W.heap.size := fun x hx => hlt x (by simp [hx])
  have k2 := h2
  have l2 : ∀ x ∈ p2, x.block < W.heap.size := fun x hx => hlt x (by simp [hx])
  obtain ⟨ba0, be0, u0, wi0, sg0, rfl, hs0, hw0, hg0⟩ := open_img (hval 0 32 v0 rfl rfl) h0
  obtain ⟨ws1, hs1, hw1, hp1⟩ := open_words (hval 1 27 v1 rfl rfl) h1
  obtain ⟨a2, rfl, rfl, rfl, w2⟩ := open_int Try.underlying3 (hval 2 3 v2 rfl rfl) h2
  clear hA0 hval0
  refine (blocksNext_walk ba0 be0 u0 wi0 sg0 ws1 v1 a2 W hs0 hw0 hg0 hs1 hw1 hp1 (bounds_i64 w2)).mono fun e W' ⟨he, hg⟩ => ?_
  subst he
  exact ⟨_, rfl, _, _, _, [], _, [], hW', trodAll_mk1 (shut_bool Try.underlying4 _), (trodAll_cons_mk (Below.trod laidOut6 (by kernel_rfl) (of_decide_eq_true (by kernel_rfl)) k0 hg l0) (trodAll_cons_mk (Below.trod laidOut6 (by kernel_rfl) (of_decide_eq_true (by kernel_rfl)) k1 hg l1) (trodAll_cons_mk (Below.trod laidOut6 (by kernel_rfl) (of_decide_eq_true (by kernel_rfl)) k2 hg l2) trodAll_mk0))), rfl, hg.frame _, fun h => by cases h⟩

theorem over : Rows.blocksNextRow.holds Try.pinned (OpenSpec.ofChange Rows.blocksNextSpec) :=
  OpenClaim.holds_of_wide 5 Try.f5 rfl rfl rfl rfl rfl rfl rfl ⟨rfl, rfl, rfl, rfl, rfl⟩ rfl rfl rfl rfl rfl (by kernel_rfl) Try.func5 (by kernel_rfl)
    (of_decide_eq_true (by kernel_rfl)) (by unfold Func.isWrapper; first | (rw [if_pos (by decide +kernel)]; kernel_rfl) | (rw [if_neg (by decide +kernel)]; exact ⟨rfl, rfl⟩))
    (fun os started H enc _ => lifted os started H enc)

theorem proved : Rows.BlocksNextSaid :=
  over
#print axioms proved
end Go.Proofs.Ytlehjkegacbmnaa.blocksNext
