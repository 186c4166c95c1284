/-
  LiveFind: what counts ahead of and behind each block of a text (at most 40 words, 8 entries) is what the document has; new memory is told.
  The walk of LiveFind.
  The walk of BlocksMore.
-/
import Derived.Test.YtcffpmicencfpaaGreatRows
import Derived.WalkKit
import Derived.ProofKit
import Derived.OpenShut
import Derived.Carry
import Derived.ChangeMaps
import Derived.Test.YtcffpmicencfpaaGreatZC1
import Derived.Test.YtcffpmicencfpaaGreatZD6
import Derived.Test.YtcffpmicencfpaaGreatZX6
import Derived.Test.YtcffpmicencfpaaGreatZY0
import Derived.Test.YtcffpmicencfpaaGreatZY5
import Derived.Test.YtcffpmicencfpaaGreatZY6
namespace Go.Proofs.YtcffpmicencfpaaGreat
open Go.RowKit Go.Lib Go.Sort Go.Maps Ip Bl Pm
set_option linter.unusedSimpArgs false
set_option linter.unusedVariables false

theorem own_words {W : World} {B : Nat} {v : Value} {n : Nat} {xs : List Value} {l : List Nat} (h : W.ownsRow B 22 1 v n xs) (m : Nat) (hn : n = m) (hx : xs = l.map wordV) : W.ownsRow B 22 1 v m (l.map wordV) := by
  subst hn hx; exact h
theorem slw_own {W : World} {B : Nat} {v : Value} {n : Nat} {l : List Nat} (h : W.ownsRow B 22 1 v n (l.map wordV)) (hn : l.length = n) : SlW W v l := by
  subst hn; exact slw_of_owns h
theorem own_below {W W' : World} {B : Nat} {t : TypeId} {s : Nat} {p : Option Addr} {m c n : Nat} {xs : List Value} (h : W.ownsRow B t s (.slice p m c) n xs) (hb : Below W.heap.size W W') : W'.ownsRow B t s (.slice p m c) n xs :=
  h.kept (grown_of_below hb) (by cases p <;> simp [Value.ownBlock])
theorem slp_cut {p : Option Addr} {n k c : Nat} (h : SlP (.slice p n c)) (hk : k ≤ n) : SlP (.slice p k c) := by
  rcases h with e | ⟨a, m, d, e⟩
  · injection e with e1 e2 e3
    subst e1 e2 e3
    obtain rfl : k = 0 := by omega
    exact .inl rfl
  · injection e with e1 e2 e3
    subst e1
    exact .inr ⟨_, _, _, rfl⟩
theorem own_lo {W : World} {B : Nat} {t : TypeId} {s : Nat} {v : Value} {n : Nat} {xs : List Value} (h : W.ownsRow B t s v n xs) : ∀ k, v.ownBlock = some k → B ≤ k := fun k e => (h.lt k e).1
end Go.Proofs.YtcffpmicencfpaaGreat
namespace Go.Proofs.YtcffpmicencfpaaGreat
open Go.RowKit Go.Lib Go.Sort Go.Maps Ip Bl Lv Pm
set_option linter.unusedSimpArgs false
set_option linter.unusedVariables false

theorem own_cap9 {W : World} {B : Nat} {t : TypeId} {k n c : Nat} {p : Option Addr} {xs : List Value} (h : W.ownsRow B t k (.slice p n c) n xs) : n ≤ c := by
  rcases h.2 with ⟨e, hn⟩ | ⟨g, cap, cur, e, _, _, hc, _⟩
  · omega
  · injection e with _ _ e3
    omega
theorem drop_cells {W : World} {g n c : Nat} {l : List (Nat × Nat)} (h : SlB W (.slice (some ⟨g, 0, none⟩) n c) l) : ∀ (j : Nat) (u : Value), (cellsB (l.drop 1))[j]? = some u → W.cell? ((⟨g, 2, none⟩ : Addr).add j) = some u := fun j u hj => by
  have hl := (List.getElem?_eq_some_iff.1 hj).1
  rw [cellsB_len] at hl
  have hk : j / 2 < (l.drop 1).length := by omega
  have hb := List.getElem?_eq_getElem hk
  obtain ⟨h1, h2⟩ := cellsB_at (l.drop 1) (j / 2) _ hb
  have hb2 : l[j / 2 + 1]? = some (l.drop 1)[j / 2] := by rw [← hb, List.getElem?_drop, Nat.add_comm]
  obtain ⟨h3, h4⟩ := slb_at h hb2
  rw [add_mid]
  rcases (show j % 2 = 0 ∨ j % 2 = 1 by omega) with e | e
  · rw [show j = j / 2 * 2 by omega, h1] at hj
    injection hj with hj
    rw [← hj, show 2 + j = (j / 2 + 1) * 2 by omega]; exact h3
  · rw [show j = j / 2 * 2 + 1 by omega, h2] at hj
    injection hj with hj
    rw [← hj, show 2 + j = (j / 2 + 1) * 2 + 1 by omega]; exact h4
theorem one_blocks (l : List (Nat × Nat)) : ∀ x ∈ cellsB l, x.oneCell' = true := fun x hx => by
  unfold cellsB at hx
  obtain ⟨y, _, hy⟩ := List.mem_flatMap.1 hx
  simp only [List.mem_cons, List.not_mem_nil, or_false] at hy
  rcases hy with rfl | rfl <;> rfl
theorem ownB_at {W : World} {B : Nat} {v : Value} {n : Nat} {xs : List Value} {l : List (Nat × Nat)} (h : W.ownsRow B 43 2 v n xs) (m : Nat) (hn : n = m) (hx : xs = cellsB l) : W.ownsRow B 43 2 v m (cellsB l) := by
  subst hn hx; exact h
set_option maxHeartbeats 8000000 in
set_option maxRecDepth 100000 in
theorem liveFind_walk (HL : LvAll) (ba be : BitVec 32) (u : Value) (wi : List Nat) (sg : Int) (es : List Nat) (ve : Value) (odd : Bool) (w : World)
    (hs : SlW w u wi) (hw : ∀ n ∈ wi, n < 4294967296) (hg : SlP u) (hes : SlW w ve es) (hwe : ∀ n ∈ es, n < 4294967296) (hpe : SlP ve) :
    Calls Tryz.prog 3 #[.agg #[.int .u32 (ba.toNat : Int), .int .u32 (be.toNat : Int), u, .int .i64 sg], ve, .bool odd] w fun e w' => e = .returned (.bool true) ∧ Below w.heap.size w w' := by
  have hbx := heap_alloc_new w (.cells #[.int .u32 (ba.toNat : Int), .int .u32 (be.toNat : Int), u, .int .i64 sg] 25)
  have hlo := (Below.refl w.heap.size w).alloc (Nat.le_refl _) (.cells #[.int .u32 (ba.toNat : Int), .int .u32 (be.toNat : Int), u, .int .i64 sg] 25)
  have HT := hideE (text_any ba be u wi sg hg _ (hs.below hlo))
  have HES := hideE hes
  have HOK := hideE (txtI_ok ba be wi hw)
  have hiw : (txtI ba be wi).words = wi.take 40 := rfl
  have HIW := hideE hiw
  have HW8 := hideE (fun a ha => hwe a (List.mem_of_mem_take ha) : ∀ a ∈ es.take 8, a < 4294967296)
  obtain ⟨nv, hnv⟩ : ∃ n, (wi.take 40).length = n := ⟨_, rfl⟩
  have HNV := hideE hnv
  obtain ⟨i, hi⟩ : ∃ i, txtI ba be wi = i := ⟨_, rfl⟩
  rw [hi] at HT HOK HIW
  have HLO := hideE hlo
  have HPE := hideE hpe
  have HEN := hideE (i.entry.isLt)
  obtain ⟨E, hE⟩ : ∃ E, i.entry.toNat = E := ⟨_, rfl⟩
  have HE := hideE hE
  clear hiw hes hwe hs hw hg hi hlo hpe hnv hE
  have HLL := hideE HL
  clear HL
  go_enter Tryz.func3, Tryz.ntmps3
  go_upto_region 2 with (first
    | (refine wpList_load_row rfl 25 _ rfl w.heap.size rfl _ _ _ _ hbx Tryz.underlying25 rfl (by kernel_rfl) ?_)
    | (go_at_call 5; refine HT.out.mono ?_; rintro e wt ⟨v, rfl, hsv, hov, hbt⟩; obtain ⟨pv, cv, rfl, _⟩ := hsv.len; rw [HNV.out])
    | (refine wpList_store_row rfl 25 _ _ rfl w.heap.size (imgC i (.slice pv nv cv)) rfl rfl _ _ (keptN hbt hbx) (by kernel_rfl) rfl (by kernel_rfl) ?_))
  have hlt := (Array.getElem?_eq_some_iff.1 (keptN hbt hbx)).1
  rw [HNV.out] at hov
  rw [HNV.out, ← HIW.out] at hsv
  have hlow2 := below_setRowE (HLO.out.trans (hbt.mono HLO.out.size)) (Nat.le_refl _) (imgC i (.slice pv nv cv))
  refine gen_world (fun W => Mb w i (.slice pv nv cv) W ∧ SlW W ve es) ⟨⟨setRow_heap _ _ _ _ _ _ (keptN hbt hbx), hsv.set _ _ (fun k e => by have h9 := hov k e; rw [World.size_alloc] at h9; omega), hlow2, by simpa using hlt⟩, HES.out.below hlow2⟩ ?_
  clear hbx HT HLO HES hsv hbt hlt hlow2 hov
  rintro wa ⟨h1, hse⟩
  obtain ⟨p, c, rfl, hlc⟩ := hse.len
  obtain ⟨nn, hnn⟩ : ∃ n, es.length = n := ⟨_, rfl⟩
  obtain ⟨A0, hA0⟩ : ∃ l, es.take 8 = l := ⟨_, rfl⟩
  obtain ⟨k0, hk0⟩ : ∃ k, A0.length = k := ⟨_, rfl⟩
  have hmin : min (nn : Int) 8 = (k0 : Int) := by rw [← hA0, List.length_take] at hk0; omega
  rw [hnn] at hse hlc HPE
  rw [hA0] at HW8
  have hkn : k0 ≤ nn ∧ k0 ≤ 8 := by omega
  have hkc : (k0 : Int) ≤ (c : Int) := by omega
  have hse8 := slw_take hse 8 _ _ _ rfl
  rw [hA0, hk0] at hse8
  have HP0 := hideE (slp_cut HPE.out hkn.1)
  have HSE := hideE hse8
  have H1 := hideE h1
  have HK0 := hideE hk0
  have HK8 := hideE hkn.2
  rw [hnn]
  clear hse hlc h1 hk0 hnn hA0 hse8 hkn HPE
  go_upto_region 2 with fail
  refine wp_region_noPanic ?_
  refine wp_region_held_drew (S := (fun W => Mb w i (.slice pv nv cv) W ∧ SlW W (.slice p k0 c) A0)) (by kernel_rfl) ⟨H1.out.below (Below.refl _ _).drew, HSE.out.below (Below.refl _ _).drew⟩ (fun h0 => ?_)
  refine wpAnyH_takeAt (i := 0) (v := .agg (imgC i (.slice pv nv cv))) rfl (by kernel_rfl) (by kernel_rfl) (by kernel_rfl) (fun _ _ _ h => h) (yieldsIf_row (by rfl) _ _ rfl w.heap.size rfl _ _ _ _ (fun _ h => h.1.box) Tryz.underlying25 rfl (by kernel_rfl)) h0 ?_
  simp only [Act.put, List.setIfInBounds_toArray, List.set_cons_zero, List.set_cons_succ]
  refine wpAnyH_takeAt (i := 1) (v := ?_) rfl (by kernel_rfl) (by kernel_rfl) (by kernel_rfl) (fun _ _ _ h => h) (Or.inl ⟨by rfl, ?_⟩) h0 ?_
  rotate_left 1
  · intro w' hS; clear hS
    go_simp <;> with_reducible rfl
  try simp only [Act.put, List.setIfInBounds_toArray, List.set_cons_zero, List.set_cons_succ]
  refine wpAnyH_takeAt (i := 2) (v := ?_) rfl (by kernel_rfl) (by kernel_rfl) (by kernel_rfl) (fun _ _ _ h => h) (Or.inl ⟨by rfl, ?_⟩) h0 ?_
  rotate_left 1
  · intro w' hS; clear hS
    go_simp <;> with_reducible rfl
  try simp only [Act.put, List.setIfInBounds_toArray, List.set_cons_zero, List.set_cons_succ]
  refine wpAnyH_takeAt (i := 3) (v := ?_) rfl (by kernel_rfl) (by kernel_rfl) (by kernel_rfl) (fun _ _ _ h => h) (Or.inl ⟨by rfl, ?_⟩) h0 ?_
  rotate_left 1
  · intro w' hS; clear hS
    go_simp <;> with_reducible rfl
  try simp only [Act.put, List.setIfInBounds_toArray, List.set_cons_zero, List.set_cons_succ]
  refine wpAnyH_takeAt (i := 4) (v := ?_) rfl (by kernel_rfl) (by kernel_rfl) (by kernel_rfl) (fun _ _ _ h => h) (Or.inl ⟨by rfl, ?_⟩) h0 ?_
  rotate_left 1
  · intro w' hS; clear hS
    go_simp <;> with_reducible rfl
  try simp only [Act.put, List.setIfInBounds_toArray, List.set_cons_zero, List.set_cons_succ]
  refine wpAnyH_takeAt (i := 5) (v := ?_) rfl (by kernel_rfl) (by kernel_rfl) (by kernel_rfl) (fun _ _ _ h => h) (Or.inl ⟨by rfl, ?_⟩) h0 ?_
  rotate_left 1
  · intro w' hS; clear hS
    go_simp <;> with_reducible rfl
  try simp only [Act.put, List.setIfInBounds_toArray, List.set_cons_zero, List.set_cons_succ]
  refine wpAnyH_ready (rs := [6]) (by kernel_rfl) (by simp) (allReady_at rfl (fun K hK => ?_))
  go_simp
  refine (rfind_any i _ _ A0 HW8.out (by rw [HK0.out]; have := HK8.out; omega) HOK.out _ h0.1.lw h0.2).mono ?_
  rintro e wb ⟨er, l, hans, u1, rfl, hrow, hb⟩
  dsimp only
  obtain ⟨q9, d9, rfl⟩ := own_slice' hrow
  have h1 : (fun W => Mb w i (.slice pv nv cv) W ∧ SlW W (.slice p k0 c) A0) wb := ⟨h0.1.below hb, h0.2.below hb⟩
  refine hK.out _ _ h1 (fun _ => ?_)
  clear hK K
  try simp only [Act.put, List.setIfInBounds_toArray, List.set_cons_zero, List.set_cons_succ]
  refine wpAnyH_takeAt (i := 7) (v := ?_) rfl (by kernel_rfl) (by kernel_rfl) (by kernel_rfl) (fun _ _ _ h => h) (Or.inl ⟨by rfl, ?_⟩) h1 ?_
  rotate_left 1
  · intro w' hS; clear hS
    go_simp <;> with_reducible rfl
  try simp only [Act.put, List.setIfInBounds_toArray, List.set_cons_zero, List.set_cons_succ]
  refine wpAnyH_takeAt (i := 8) (v := ?_) rfl (by kernel_rfl) (by kernel_rfl) (by kernel_rfl) (fun _ _ _ h => h) (Or.inl ⟨by rfl, ?_⟩) h1 ?_
  rotate_left 1
  · intro w' hS; clear hS
    go_simp <;> with_reducible rfl
  try simp only [Act.put, List.setIfInBounds_toArray, List.set_cons_zero, List.set_cons_succ]
  refine wpAnyH_takeAt (i := 9) (v := ?_) rfl (by kernel_rfl) (by kernel_rfl) (by kernel_rfl) (fun _ _ _ h => h) (Or.inl ⟨by rfl, ?_⟩) h1 ?_
  rotate_left 1
  · intro w' hS; clear hS
    go_simp <;> with_reducible rfl
  try simp only [Act.put, List.setIfInBounds_toArray, List.set_cons_zero, List.set_cons_succ]
  refine wpAnyH_takeAt (i := 10) (v := ?_) rfl (by kernel_rfl) (by kernel_rfl) (by kernel_rfl) (fun _ _ _ h => h) (Or.inl ⟨by rfl, ?_⟩) h1 ?_
  rotate_left 1
  · intro w' hS; clear hS
    go_simp <;> with_reducible rfl
  try simp only [Act.put, List.setIfInBounds_toArray, List.set_cons_zero, List.set_cons_succ]
  refine wpAnyH_takeAt (i := 11) (v := ?_) rfl (by kernel_rfl) (by kernel_rfl) (by kernel_rfl) (fun _ _ _ h => h) (Or.inl ⟨by rfl, ?_⟩) h1 ?_
  rotate_left 1
  · intro w' hS; clear hS
    go_simp <;> with_reducible rfl
  try simp only [Act.put, List.setIfInBounds_toArray, List.set_cons_zero, List.set_cons_succ]
  refine wpAnyH_done (by kernel_rfl) ?_ _
  refine NoPanic.normal ?_
  refine gen_world (fun W => Mb w i (.slice pv nv cv) W ∧ SlB W (.slice q9 l.length d9) l) ⟨h1.1, slb_of_owns hrow⟩ ?_
  have hcap := own_cap9 hrow
  clear h0 h1 hrow hb hmin hkc HSE H1
  rintro W0 ⟨h1, hsl⟩
  have hnw : i.words.length ≤ 40 := by rw [HIW.out, List.length_take]; omega
  by_cases h0 : er = 0
  · have hz : ((er : Int) != 0) = false := by rw [h0]; rfl
    have hw := whole_of HOK.out (h0 ▸ hans)
    have hfw := (AnsF.few hans).1
    have hn : (txI i).n = i.words.length := rfl
    have hlt : ∀ b ∈ l, b.1 < 4294967296 := fun b hb => by have := hw.small b hb; omega
    obtain ⟨n1, hn1⟩ : ∃ n, l.length = n := ⟨_, rfl⟩
    have hn40 : n1 ≤ 40 := by omega
    have hn0 : 1 ≤ n1 := by
      rw [← hn1]
      have := List.length_pos_of_mem hw.ent
      rwa [List.length_map] at this
    rw [hn1] at hsl hcap
    rw [hn1]
    have HN1 := hideE hn1
    have HLT := hideE hlt
    have H1 := hideE h1
    have HSL := hideE hsl
    clear h0 hans hw hfw hn hlt hn1 h1 hsl
    go_upto_if 32 with fail
    go_cut [7] (fun s7 W => ∃ (pl : Option Addr) (n c : Nat) (l' : List (Nat × Nat)), s7 = .slice pl n c ∧ l'.length = n ∧ n ≤ 40 ∧ (∀ b ∈ l', b.1 < 4294967296) ∧ Mb w i (.slice pv nv cv) W ∧ SlB W (.slice pl n c) l')
    case first =>
      cases odd with
      | false =>
        go_wp2_with fail
        go_meet
        case rel => exact ⟨_, _, _, l, rfl, HN1.out, hn40, HLT.out, H1.out, HSL.out⟩
      | true =>
        obtain ⟨g, hg, _, _⟩ := HSL.out.at (List.getElem?_eq_getElem (l := l) (i := 0) (by rw [HN1.out]; omega))
        subst hg
        have hi1 : (1 : Int) ≤ (n1 : Int) := by omega
        obtain ⟨i0, hii, hz0, hz1, hz2⟩ := info_parts infoB
        have HOE := hideE (owns_emptyB W0 W0.heap.size (Nat.le_refl _))
        have hdl : (l.drop 1).length = n1 - 1 := by rw [List.length_drop, HN1.out]
        have HDL := hideE hdl
        have HDC := hideE (drop_cells (HSL.out.below ((Below.refl _ W0).alloc (Nat.le_refl _) (.cells #[] 43))))
        clear hdl
        by_cases hd : d9 = 1
        · obtain rfl : n1 = 1 := by omega
          subst hd
          have hnil : l.drop 1 = [] := List.eq_nil_of_length_eq_zero (by rw [HDL.out])
          have HNIL := hideE hnil
          clear hnil
          go_wp2_with (at_builtin; refine wpList_append_own _ rfl _ _ 27 rfl W0.heap.size 43 i0 (.agg #[.int .u32 0, .int .i64 0]) 2 16 Tryz.underlying27 hii hz0 hz1 hz2 rfl (by decide) _ _ _ rfl HOE.out ⟨g, 0, none⟩ 0 0 [] rfl (by simp) (fun j u hj => by simp at hj) (fun x hx => by simp at hx) (by unfold maxLen; omega) (by omega) (by simp) ?_; intro v2 w3 hown hgr _)
          go_meet
          case rel =>
            have hb := ((Below.refl W0.heap.size W0).alloc (Nat.le_refl _) (.cells #[] 43)).grown hgr (by simp) (fun k e => (HOE.out.lt k e).1)
            have hr := ownB_at (l := []) hown 0 (by simp) (by simp [cellsB])
            obtain ⟨p3, c3, rfl⟩ := own_slice' hr
            exact ⟨p3, 0, c3, [], rfl, rfl, by omega, (fun b hb => by simp at hb), H1.out.below hb, slb_of_owns hr⟩
        · have hd2 : ¬ (d9 = 1) := hd
          go_wp2_with (at_builtin; refine wpList_append_own _ rfl _ _ 27 rfl W0.heap.size 43 i0 (.agg #[.int .u32 0, .int .i64 0]) 2 16 Tryz.underlying27 hii hz0 hz1 hz2 rfl (by decide) _ _ _ rfl HOE.out ⟨g, 2, none⟩ (n1 - 1) (d9 - 1) (cellsB (l.drop 1)) rfl (by rw [cellsB_len, HDL.out]) HDC.out (one_blocks _) (by unfold maxLen; omega) (by omega) (by simp) ?_; intro v2 w3 hown hgr _)
          go_meet
          case rel =>
            have hb := ((Below.refl W0.heap.size W0).alloc (Nat.le_refl _) (.cells #[] 43)).grown hgr (by simp) (fun k e => (HOE.out.lt k e).1)
            have hr := ownB_at (l := l.drop 1) hown (n1 - 1) (by simp) (by simp)
            obtain ⟨p3, c3, rfl⟩ := own_slice' hr
            exact ⟨p3, n1 - 1, c3, l.drop 1, rfl, HDL.out, by omega, fun b hb => HLT.out b (List.mem_of_mem_drop hb), H1.out.below hb, slb_of_owns (l := l.drop 1) (by rw [HDL.out]; exact hr)⟩
    case rest =>
      clear HN1 HLT H1 HSL hz hn40 hn0
      obtain ⟨pl, n, c, l', rfl, hn, hn40, hlt, h2, hsl⟩ := hcut
      have H2 := hideE h2
      have HN := hideE hn
      have hbx := h2.box
      have hlw := h2.lw
      have HSL := hideE hsl
      have HLT := hideE hlt
      clear h2 hn hsl hlt
      go_upto_region 8 with (first
        | (refine wpList_load_row rfl 25 _ rfl w.heap.size rfl _ _ _ _ hbx Tryz.underlying25 rfl (by kernel_rfl) ?_)
        | (go_at_call 8; refine (rfind9_any i _ _ l' (by rw [HN.out]; omega) HLT.out HOK.out _ hlw HSL.out).mono ?_; rintro e wb ⟨a, b, er2, hans, ua, ub, rfl, hsa, hsb, hb⟩))
      have HAN := hideE hans
      refine gen_world (fun W => Mb w i (.slice pv nv cv) W ∧ SlB W (.slice pl n c) l' ∧ SlW W ua a ∧ SlW W ub b) ⟨H2.out.below hb, HSL.out.below hb, hsa, hsb⟩ ?_
      clear H2 HSL hbx hlw hans hsa hsb hb
      rintro W1 ⟨h3, hsl, hsa, hsb⟩
      go_upto_region 9 with fail
      go_loopg [12] 2 (fun q j W => ∃ t : Nat, t + q = 2 ∧ j = .int .i64 (t : Int) ∧ Mb w i (.slice pv nv cv) W ∧ SlB W (.slice pl n c) l' ∧ SlW W ua a ∧ SlW W ub b)
      case atStart => exact ⟨0, by omega, rfl, h3, hsl, hsa, hsb⟩
      case round =>
        clear h3 hsl hsa hsb
        obtain ⟨t, htq, rfl, h3, hsl, hsa, hsb⟩ := hrel
        cases gk with
        | zero =>
          obtain rfl : t = 2 := by omega
          have hlow := h3.low
          clear h3 hsl hsa hsb
          go_wp2_with (go_at_call 7; refine (fixed9_any HLL.out _).mono ?_; rintro e wf ⟨rfl, hbf⟩)
          go_ret
          exact ⟨rfl, hlow.trans (hbf.mono hlow.size)⟩
        | succ q =>
          have ht2 : (t : Int) < 2 := by omega
          have hwt : IntKind.i64.wrap ((t : Int) + 1) = (t : Int) + 1 := wrE (by omega) (by omega)
          refine gen_world (fun W => Mb w i (.slice pv nv cv) W ∧ SlB W (.slice pl n c) l' ∧ SlW W ua a ∧ SlW W ub b) ⟨h3, hsl, hsa, hsb⟩ ?_
          clear h3 hsl hsa hsb
          rintro Wo ⟨h3, hsl, hsa, hsb⟩
          have hbx := h3.box
          have hlw := h3.lw
          have H3 := hideE h3
          have HSL := hideE hsl
          have HSA := hideE hsa
          have HSB := hideE hsb
          have hee : ((er2 : Int) != (er2 : Int)) = false := by simp
          clear h3 hsl hsa hsb
          go_upto_region 12 with (first
            | (refine wpList_load_row rfl 25 _ rfl w.heap.size rfl _ _ _ _ hbx Tryz.underlying25 rfl (by kernel_rfl) ?_)
            | (go_at_call 9; refine (HLL.out.find i _ _ l' (by rw [HN.out]; omega) HLT.out HOK.out _ hlw HSL.out).mono ?_; rintro e wb ⟨a2, b2, er3, hans2, va, vb, rfl, hra, hrb, hb2⟩; have hsm := HAN.out.same hans2; obtain ⟨hs1, hs2, hs3⟩ := hsm; subst hs1; subst hs2; subst hs3))
          obtain ⟨nn, hnn⟩ : ∃ nn, a.length = nn := ⟨_, rfl⟩
          have hsa2 := slw_of_owns hra
          have hsb2 := slw_of_owns hrb
          have hal : a.length ≤ 40 ∧ b.length ≤ 40 := by
            rcases hans2 with ⟨_, _, A, hA, rfl, rfl⟩ | ⟨_, _, rfl, rfl⟩
            · have h1 := hA.fx.len
              have h2 : (flowI i l').n = n := HN.out
              refine ⟨by rw [natL_len]; omega, by rw [natL_len]; unfold behL; rw [List.length_map, List.length_range]; omega⟩
            · exact ⟨by simp, by simp⟩
          obtain ⟨pa2, ca2, rfl⟩ := own_slice' hra
          have HB2 := hideE hb2
          have HRW := hideE hra
          have HSM1 := hideE (rwords_yes a (.slice pa2 a.length ca2) ua (by omega) wb hsa2 (HSA.out.below hb2))
          have HSM2 := hideE (fun W (hW : Below wb.heap.size wb W) => rwords_yes b vb ub (by omega) W (hsb2.below hW) ((HSB.out.below hb2).below hW))
          have HNN := hideE hnn
          have hn4 : nn ≤ 40 := by omega
          clear hra hrb hsa2 hsb2 hb2 hans2 hlw hbx hal hnn
          go_upto_region 15 with (first
            | (go_at_call_of 10 ua; refine HSM1.out.mono ?_; rintro e wz ⟨rfl, hbz⟩)
            | (go_at_call_of 10 ub; refine (HSM2.out _ hbz).mono ?_; rintro e wy ⟨rfl, hby⟩))
          have hbzy := hbz.trans (hby.mono hbz.size)
          rw [HNN.out] at HRW
          rw [HNN.out]
          refine gen_world (fun W => Below Wo.heap.size Wo W ∧ ∃ xs, W.ownsRow Wo.heap.size 22 1 (.slice pa2 nn ca2) nn xs) ⟨HB2.out.trans (hbzy.mono HB2.out.size), _, own_below HRW.out hbzy⟩ ?_
          clear HB2 HRW HSM1 HSM2 hbz hby hbzy hee
          rintro Wp ⟨hbp, xs, hrp⟩
          go_loopg [16] nn (fun q2 j W => ∃ m : Nat, m + q2 = nn ∧ j = .int .i64 (m : Int) ∧ Below Wo.heap.size Wo W ∧ ∃ xs, W.ownsRow Wo.heap.size 22 1 (.slice pa2 nn ca2) nn xs)
          case atStart => exact ⟨0, by omega, rfl, hbp, xs, hrp⟩
          case round =>
            clear hbp hrp xs
            obtain ⟨m, hmq, rfl, hbp, xs, hrp⟩ := hrel
            cases gk with
            | zero =>
              obtain rfl : m = nn := by omega
              have hkm : ¬ ((m : Int) < (m : Int)) := by omega
              have HBP := hideE hbp
              clear hbp hrp
              go_wp2_with fail
              go_roundg q
              case measure => omega
              case rel => exact ⟨t + 1, by omega, by simp, H3.out.below HBP.out, HSL.out.below HBP.out, HSA.out.below HBP.out, HSB.out.below HBP.out⟩
            | succ q2 =>
              have hkm : ((m : Int) < (nn : Int)) := by omega
              have hkm0 : (0 : Int) ≤ (m : Int) := by omega
              have hwm : IntKind.i64.wrap ((m : Int) + 1) = (m : Int) + 1 := wrE (by omega) (by omega)
              obtain ⟨g, rfl⟩ := own_some hrp (by omega)
              have hxl : xs.length = nn * 1 := hrp.1
              obtain ⟨x, hx⟩ : ∃ x, xs[m]? = some x := ⟨xs[m]'(by omega), List.getElem?_eq_getElem (by omega)⟩
              have e1 : wr.cell? ⟨g, m, none⟩ = some x := by rw [hrp.cellAt _ (by omega)]; exact hx
              have f1 : wr.frozen? ⟨g, m, none⟩ = false := hrp.frozenAt _
              have hst := hrp.stored m (.int .u32 0)
              have HST := hideE hst.1
              have HBT := hideE (hbp.grown hst.2 hbp.size (fun k e => by cases e; exact (hrp.lt _ rfl).1))
              clear hst hrp hbp hx hxl
              go_wp2_with fail
              go_roundg q2
              case measure => omega
              case rel => exact ⟨m + 1, by omega, by simp, HBT.out, _, HST.out⟩
  · have hz : ((er : Int) != 0) = true := bne_iff_ne.2 (by omega)
    have hlow := h1.low
    clear h0 hans h1 hsl
    go_wp2_with (go_at_call 7; refine (fixed9_any HLL.out _).mono ?_; rintro e wf ⟨rfl, hbf⟩)
    go_ret
    exact ⟨rfl, hlow.trans (hbf.mono hlow.size)⟩
end Go.Proofs.YtcffpmicencfpaaGreat
namespace Go.Proofs.YtcffpmicencfpaaGreat.liveFind
open Go.ChangeShapes Go.WideShapes Go.ChangeAt Go.RowKit
open Go.ChangeMaps (open_string shut_string)
set_option linter.unusedVariables false

theorem own : ownKnob Tryz.prog.godebug = none := by kernel_rfl

set_option maxRecDepth 100000 in
theorem lifted (os : Os) (started : os.Started) (H : Type) (enc : TypeId × Value → H) :
    ReturnsInHanded {} Tryz.checked os 3 .any (Rows.liveFindSpec.pre6 enc Tryz.prog Tryz.f3 Rows.liveFindRow.domain false) (Rows.liveFindSpec.post enc Tryz.prog Tryz.f3 false true false false) := by
  refine returnsInHanded_of_change (C := Tryz.checked) own started (by kernel_rfl) Tryz.func3
    (ChangeSpec.witness6 (enc := enc) (C := Tryz.checked) false ⟨#[], #[.agg #[.int .u32 0, .int .u32 0, .slice none 0 0, .int .i64 0], .slice none 0 0, .bool false], []⟩ 8 (by kernel_rfl) (by kernel_rfl) (by kernel_rfl) (by kernel_rfl)) ?_
  intro W base args ds gs before hval0 hW hcnd _
  have hval : ∀ (j : Nat) t v, Tryz.f3.params[j]? = some t → args[j]? = some v → Value.okWide Tryz.prog W .any base t v := hval0
  have hW' := hW
  obtain ⟨p, q, hA0, hV, rfl, hfz, hnd⟩ := hW
  have hA : DataW.TrodAll enc Tryz.prog W 0 (fun _ => true) true Tryz.f3.params.toList args.toList ds p := hA0
  rw [Tryz.params3] at hA hval
  obtain ⟨v0, vs0, d0, ds0, p0, q0, hargs, rfl, rfl, h0, r0⟩ := trodAll_cons hA
  obtain ⟨v1, vs1, d1, ds1, p1, q1, rfl, rfl, rfl, h1, r1⟩ := trodAll_cons r0
  obtain ⟨v2, vs2, d2, ds2, p2, q2, rfl, rfl, rfl, h2, r2⟩ := trodAll_cons r1
  obtain ⟨rfl, rfl, rfl⟩ := trodAll_nil r2
  obtain rfl : args = #[v0, v1, v2] := by cases args; simp_all
  obtain ⟨rfl, rfl⟩ := trodVars_none hV
  have hlt : ∀ x ∈ p0 ++ p1 ++ p2, x.block < W.heap.size := fun x hx => by simpa using hW'.lt x (by simpa using hx)
  have k0 := h0
  have l0 : ∀ x ∈ p0, x.block < W.heap.size := fun x hx => hlt x (by simp [hx])
  have k1 := h1
  have l1 : ∀ x ∈ p1, x.block < W.heap.size := fun x hx => hlt x (by simp [hx])
  have k2 := h2
  have l2 : ∀ x ∈ p2, x.block < W.heap.size := fun x hx => hlt x (by simp [hx])
  obtain ⟨ba0, be0, u0, wi0, sg0, rfl, hs0, hw0, hg0⟩ := open_img (hval 0 25 v0 rfl rfl) h0
  obtain ⟨ws1, hs1, hw1, hp1⟩ := open_words (hval 1 23 v1 rfl rfl) h1
  obtain ⟨b2, rfl, rfl, rfl⟩ := open_bool Tryz.underlying4 (hval 2 4 v2 rfl rfl) h2
  clear hA0 hval0
  refine (liveFind_walk lv9 ba0 be0 u0 wi0 sg0 ws1 v1 b2 W hs0 hw0 hg0 hs1 hw1 hp1).mono fun e W' ⟨he, hg⟩ => ?_
  subst he
  exact ⟨_, rfl, _, _, _, [], _, [], hW', trodAll_mk1 (shut_bool Tryz.underlying4 _), (trodAll_cons_mk (Below.trod laidOut6 (by kernel_rfl) (of_decide_eq_true (by kernel_rfl)) k0 hg l0) (trodAll_cons_mk (Below.trod laidOut6 (by kernel_rfl) (of_decide_eq_true (by kernel_rfl)) k1 hg l1) (trodAll_cons_mk (Below.trod laidOut6 (by kernel_rfl) (of_decide_eq_true (by kernel_rfl)) k2 hg l2) trodAll_mk0))), rfl, hg.frame _, fun h => by cases h⟩

theorem over : Rows.liveFindRow.holds Tryz.pinned (OpenSpec.ofChange Rows.liveFindSpec) :=
  OpenClaim.holds_of_wide 3 Tryz.f3 rfl rfl rfl rfl rfl rfl rfl ⟨rfl, rfl, rfl, rfl, rfl⟩ rfl rfl rfl rfl rfl (by kernel_rfl) Tryz.func3 (by kernel_rfl)
    (of_decide_eq_true (by kernel_rfl)) (by unfold Func.isWrapper; first | (rw [if_pos (by decide +kernel)]; kernel_rfl) | (rw [if_neg (by decide +kernel)]; exact ⟨rfl, rfl⟩))
    (fun os started H enc _ => lifted os started H enc)

theorem proved : Rows.LiveFindSaid :=
  over
#print axioms proved
end Go.Proofs.YtcffpmicencfpaaGreat.liveFind
