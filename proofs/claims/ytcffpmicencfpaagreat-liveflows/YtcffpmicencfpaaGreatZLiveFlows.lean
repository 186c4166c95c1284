/-
  LiveFlows: what counts behind a block is what counts ahead of those behind it, or all; what counts ahead is what Back makes of it.
  The walk of LiveFlows.
  The walk of BlocksMore.
-/
import Derived.Test.YtcffpmicencfpaaGreatRows
import Derived.WalkKit
import Derived.ProofKit
import Derived.OpenShut
import Derived.Carry
import Derived.ChangeMaps
import Derived.Test.YtcffpmicencfpaaGreatZC1
import Derived.Test.YtcffpmicencfpaaGreatZD6
import Derived.Test.YtcffpmicencfpaaGreatZX6
import Derived.Test.YtcffpmicencfpaaGreatZY0
import Derived.Test.YtcffpmicencfpaaGreatZY5
import Derived.Test.YtcffpmicencfpaaGreatZY7
namespace Go.Proofs.YtcffpmicencfpaaGreat
open Go.RowKit Go.Lib Go.Sort Go.Maps Ip Bl Pm
set_option linter.unusedSimpArgs false
set_option linter.unusedVariables false

theorem own_words {W : World} {B : Nat} {v : Value} {n : Nat} {xs : List Value} {l : List Nat} (h : W.ownsRow B 22 1 v n xs) (m : Nat) (hn : n = m) (hx : xs = l.map wordV) : W.ownsRow B 22 1 v m (l.map wordV) := by
  subst hn hx; exact h
theorem slw_own {W : World} {B : Nat} {v : Value} {n : Nat} {l : List Nat} (h : W.ownsRow B 22 1 v n (l.map wordV)) (hn : l.length = n) : SlW W v l := by
  subst hn; exact slw_of_owns h
theorem own_below {W W' : World} {B : Nat} {t : TypeId} {s : Nat} {p : Option Addr} {m c n : Nat} {xs : List Value} (h : W.ownsRow B t s (.slice p m c) n xs) (hb : Below W.heap.size W W') : W'.ownsRow B t s (.slice p m c) n xs :=
  h.kept (grown_of_below hb) (by cases p <;> simp [Value.ownBlock])
theorem slp_cut {p : Option Addr} {n k c : Nat} (h : SlP (.slice p n c)) (hk : k ≤ n) : SlP (.slice p k c) := by
  rcases h with e | ⟨a, m, d, e⟩
  · injection e with e1 e2 e3
    subst e1 e2 e3
    obtain rfl : k = 0 := by omega
    exact .inl rfl
  · injection e with e1 e2 e3
    subst e1
    exact .inr ⟨_, _, _, rfl⟩
theorem own_lo {W : World} {B : Nat} {t : TypeId} {s : Nat} {v : Value} {n : Nat} {xs : List Value} (h : W.ownsRow B t s v n xs) : ∀ k, v.ownBlock = some k → B ≤ k := fun k e => (h.lt k e).1
end Go.Proofs.YtcffpmicencfpaaGreat
namespace Go.Proofs.YtcffpmicencfpaaGreat
open Go.RowKit Go.Lib Go.Sort Go.Maps Ip Bl Lv Pm
set_option linter.unusedSimpArgs false
set_option linter.unusedVariables false

theorem slw_cell {W : World} {g n c : Nat} {l : List Nat} (h : SlW W (.slice (some ⟨g, 0, none⟩) n c) l) {k u : Nat} (hk : l[k]? = some u) : W.cell? ⟨g, k, none⟩ = some (.int .u32 (u : Int)) := by
  obtain ⟨g', o', e, hc⟩ := h.at hk
  injection e with e
  injection e with e1 e2
  subst e1 e2
  rwa [Nat.zero_add] at hc
theorem natL_at {A : List (BitVec 32)} {k : Nat} (h : k < A.length) : (natL A)[k]? = some (A.getD k (BitVec.ofNat 32 0)).toNat := by
  rw [natL_get, List.getD_eq_getElem?_getD, List.getElem?_eq_getElem h]; rfl
theorem flow_row {i : Img} {l : List (Nat × Nat)} {A : List (BitVec 32)} {k x y : Nat} (hA : LeastF (flowI i l) A) (h : l[k]? = some (x, y)) :
    (natL A)[k]? = some (backB (codeI i (x, y)) (behF (flowI i l) A k)).toNat ∧ (natL (behL (flowI i l) A))[k]? = some (behF (flowI i l) A k).toNat := by
  have hk : k < (flowI i l).n := (List.getElem?_eq_some_iff.1 h).1
  have hc : (flowI i l).code k = codeI i (x, y) := by show codeI i (blkAt l k) = _; rw [blkAt_of h]
  constructor
  · rw [natL_at (by rw [hA.fx.len]; exact hk), hA.fx.fix k hk]
    unfold ahdF
    rw [hc]
  · rw [natL_get]
    unfold behL
    rw [List.getElem?_map, List.getElem?_range hk]; rfl
theorem flow_beh {i : Img} {l : List (Nat × Nat)} {A : List (BitVec 32)} {k : Nat} (h : behF (flowI i l) A k ≠ allB) : behF (flowI i l) A k = orL A (nextV i l (k : Int)).1 := by
  cases hl : (flowI i l).loose k with
  | true => exact absurd (beh_loose hl) h
  | false => exact beh_next hl
/-- While LiveFlows is at work. -/
structure Fl (w : World) (i : Img) (v vl va vb : Value) (l : List (Nat × Nat)) (a b : List Nat) (W : World) : Prop where
  mb : Mb w i v W
  sl : SlB W vl l
  sa : SlW W va a
  sb : SlW W vb b
theorem Fl.below {w W W' : World} {i : Img} {v vl va vb : Value} {l : List (Nat × Nat)} {a b : List Nat} (h : Fl w i v vl va vb l a b W) (hb : Below W.heap.size W W') : Fl w i v vl va vb l a b W' :=
  ⟨h.mb.below hb, h.sl.below hb, h.sa.below hb, h.sb.below hb⟩
set_option maxHeartbeats 8000000 in
set_option maxRecDepth 100000 in
theorem liveFlows_walk (HL : LvAll) (ba be : BitVec 32) (u : Value) (wi : List Nat) (sg : Int) (es : List Nat) (ve : Value) (w : World)
    (hs : SlW w u wi) (hw : ∀ n ∈ wi, n < 4294967296) (hg : SlP u) (hes : SlW w ve es) (hwe : ∀ n ∈ es, n < 4294967296) (hpe : SlP ve) :
    Calls Tryz.prog 4 #[.agg #[.int .u32 (ba.toNat : Int), .int .u32 (be.toNat : Int), u, .int .i64 sg], ve] w fun e w' => e = .returned (.bool true) ∧ Below w.heap.size w w' := by
  have hbx := heap_alloc_new w (.cells #[.int .u32 (ba.toNat : Int), .int .u32 (be.toNat : Int), u, .int .i64 sg] 25)
  have hlo := (Below.refl w.heap.size w).alloc (Nat.le_refl _) (.cells #[.int .u32 (ba.toNat : Int), .int .u32 (be.toNat : Int), u, .int .i64 sg] 25)
  have HT := hideE (text_any ba be u wi sg hg _ (hs.below hlo))
  have HES := hideE hes
  have HOK := hideE (txtI_ok ba be wi hw)
  have hiw : (txtI ba be wi).words = wi.take 40 := rfl
  have HIW := hideE hiw
  have HW8 := hideE (fun a ha => hwe a (List.mem_of_mem_take ha) : ∀ a ∈ es.take 8, a < 4294967296)
  obtain ⟨nv, hnv⟩ : ∃ n, (wi.take 40).length = n := ⟨_, rfl⟩
  have HNV := hideE hnv
  obtain ⟨i, hi⟩ : ∃ i, txtI ba be wi = i := ⟨_, rfl⟩
  rw [hi] at HT HOK HIW
  have HLO := hideE hlo
  have HPE := hideE hpe
  have HEN := hideE (i.entry.isLt)
  obtain ⟨E, hE⟩ : ∃ E, i.entry.toNat = E := ⟨_, rfl⟩
  have HE := hideE hE
  clear hiw hes hwe hs hw hg hi hlo hpe hnv hE
  have HLL := hideE HL
  clear HL
  go_enter Tryz.func4, Tryz.ntmps4
  go_upto_region 2 with (first
    | (refine wpList_load_row rfl 25 _ rfl w.heap.size rfl _ _ _ _ hbx Tryz.underlying25 rfl (by kernel_rfl) ?_)
    | (go_at_call 5; refine HT.out.mono ?_; rintro e wt ⟨v, rfl, hsv, hov, hbt⟩; obtain ⟨pv, cv, rfl, _⟩ := hsv.len; rw [HNV.out])
    | (refine wpList_store_row rfl 25 _ _ rfl w.heap.size (imgC i (.slice pv nv cv)) rfl rfl _ _ (keptN hbt hbx) (by kernel_rfl) rfl (by kernel_rfl) ?_))
  have hlt := (Array.getElem?_eq_some_iff.1 (keptN hbt hbx)).1
  rw [HNV.out] at hov
  rw [HNV.out, ← HIW.out] at hsv
  have hlow2 := below_setRowE (HLO.out.trans (hbt.mono HLO.out.size)) (Nat.le_refl _) (imgC i (.slice pv nv cv))
  refine gen_world (fun W => Mb w i (.slice pv nv cv) W ∧ SlW W ve es) ⟨⟨setRow_heap _ _ _ _ _ _ (keptN hbt hbx), hsv.set _ _ (fun k e => by have h9 := hov k e; rw [World.size_alloc] at h9; omega), hlow2, by simpa using hlt⟩, HES.out.below hlow2⟩ ?_
  clear hbx HT HLO HES hsv hbt hlt hlow2 hov
  rintro wa ⟨h1, hse⟩
  obtain ⟨p, c, rfl, hlc⟩ := hse.len
  obtain ⟨nn, hnn⟩ : ∃ n, es.length = n := ⟨_, rfl⟩
  obtain ⟨A0, hA0⟩ : ∃ l, es.take 8 = l := ⟨_, rfl⟩
  obtain ⟨k0, hk0⟩ : ∃ k, A0.length = k := ⟨_, rfl⟩
  have hmin : min (nn : Int) 8 = (k0 : Int) := by rw [← hA0, List.length_take] at hk0; omega
  rw [hnn] at hse hlc HPE
  rw [hA0] at HW8
  have hkn : k0 ≤ nn ∧ k0 ≤ 8 := by omega
  have hkc : (k0 : Int) ≤ (c : Int) := by omega
  have hse8 := slw_take hse 8 _ _ _ rfl
  rw [hA0, hk0] at hse8
  have HP0 := hideE (slp_cut HPE.out hkn.1)
  have HSE := hideE hse8
  have H1 := hideE h1
  have HK0 := hideE hk0
  have HK8 := hideE hkn.2
  rw [hnn]
  clear hse hlc h1 hk0 hnn hA0 hse8 hkn HPE
  go_upto_region 2 with fail
  refine wp_region_noPanic ?_
  refine wp_region_held_drew (S := (fun W => Mb w i (.slice pv nv cv) W ∧ SlW W (.slice p k0 c) A0)) (by kernel_rfl) ⟨H1.out.below (Below.refl _ _).drew, HSE.out.below (Below.refl _ _).drew⟩ (fun h0 => ?_)
  refine wpAnyH_takeAt (i := 0) (v := .agg (imgC i (.slice pv nv cv))) rfl (by kernel_rfl) (by kernel_rfl) (by kernel_rfl) (fun _ _ _ h => h) (yieldsIf_row (by rfl) _ _ rfl w.heap.size rfl _ _ _ _ (fun _ h => h.1.box) Tryz.underlying25 rfl (by kernel_rfl)) h0 ?_
  simp only [Act.put, List.setIfInBounds_toArray, List.set_cons_zero, List.set_cons_succ]
  refine wpAnyH_takeAt (i := 1) (v := ?_) rfl (by kernel_rfl) (by kernel_rfl) (by kernel_rfl) (fun _ _ _ h => h) (Or.inl ⟨by rfl, ?_⟩) h0 ?_
  rotate_left 1
  · intro w' hS; clear hS
    go_simp <;> with_reducible rfl
  try simp only [Act.put, List.setIfInBounds_toArray, List.set_cons_zero, List.set_cons_succ]
  refine wpAnyH_takeAt (i := 2) (v := ?_) rfl (by kernel_rfl) (by kernel_rfl) (by kernel_rfl) (fun _ _ _ h => h) (Or.inl ⟨by rfl, ?_⟩) h0 ?_
  rotate_left 1
  · intro w' hS; clear hS
    go_simp <;> with_reducible rfl
  try simp only [Act.put, List.setIfInBounds_toArray, List.set_cons_zero, List.set_cons_succ]
  refine wpAnyH_takeAt (i := 3) (v := ?_) rfl (by kernel_rfl) (by kernel_rfl) (by kernel_rfl) (fun _ _ _ h => h) (Or.inl ⟨by rfl, ?_⟩) h0 ?_
  rotate_left 1
  · intro w' hS; clear hS
    go_simp <;> with_reducible rfl
  try simp only [Act.put, List.setIfInBounds_toArray, List.set_cons_zero, List.set_cons_succ]
  refine wpAnyH_takeAt (i := 4) (v := ?_) rfl (by kernel_rfl) (by kernel_rfl) (by kernel_rfl) (fun _ _ _ h => h) (Or.inl ⟨by rfl, ?_⟩) h0 ?_
  rotate_left 1
  · intro w' hS; clear hS
    go_simp <;> with_reducible rfl
  try simp only [Act.put, List.setIfInBounds_toArray, List.set_cons_zero, List.set_cons_succ]
  refine wpAnyH_takeAt (i := 5) (v := ?_) rfl (by kernel_rfl) (by kernel_rfl) (by kernel_rfl) (fun _ _ _ h => h) (Or.inl ⟨by rfl, ?_⟩) h0 ?_
  rotate_left 1
  · intro w' hS; clear hS
    go_simp <;> with_reducible rfl
  try simp only [Act.put, List.setIfInBounds_toArray, List.set_cons_zero, List.set_cons_succ]
  refine wpAnyH_ready (rs := [6]) (by kernel_rfl) (by simp) (allReady_at rfl (fun K hK => ?_))
  go_simp
  refine (rfind_any i _ _ A0 HW8.out (by rw [HK0.out]; have := HK8.out; omega) HOK.out _ h0.1.lw h0.2).mono ?_
  rintro e wb ⟨er, l, hans, u1, rfl, hrow, hb⟩
  dsimp only
  obtain ⟨q9, d9, rfl⟩ := own_slice' hrow
  have h1 : (fun W => Mb w i (.slice pv nv cv) W ∧ SlW W (.slice p k0 c) A0) wb := ⟨h0.1.below hb, h0.2.below hb⟩
  refine hK.out _ _ h1 (fun _ => ?_)
  clear hK K
  try simp only [Act.put, List.setIfInBounds_toArray, List.set_cons_zero, List.set_cons_succ]
  refine wpAnyH_takeAt (i := 7) (v := ?_) rfl (by kernel_rfl) (by kernel_rfl) (by kernel_rfl) (fun _ _ _ h => h) (Or.inl ⟨by rfl, ?_⟩) h1 ?_
  rotate_left 1
  · intro w' hS; clear hS
    go_simp <;> with_reducible rfl
  try simp only [Act.put, List.setIfInBounds_toArray, List.set_cons_zero, List.set_cons_succ]
  refine wpAnyH_takeAt (i := 8) (v := ?_) rfl (by kernel_rfl) (by kernel_rfl) (by kernel_rfl) (fun _ _ _ h => h) (Or.inl ⟨by rfl, ?_⟩) h1 ?_
  rotate_left 1
  · intro w' hS; clear hS
    go_simp <;> with_reducible rfl
  try simp only [Act.put, List.setIfInBounds_toArray, List.set_cons_zero, List.set_cons_succ]
  refine wpAnyH_takeAt (i := 9) (v := ?_) rfl (by kernel_rfl) (by kernel_rfl) (by kernel_rfl) (fun _ _ _ h => h) (Or.inl ⟨by rfl, ?_⟩) h1 ?_
  rotate_left 1
  · intro w' hS; clear hS
    go_simp <;> with_reducible rfl
  try simp only [Act.put, List.setIfInBounds_toArray, List.set_cons_zero, List.set_cons_succ]
  refine wpAnyH_takeAt (i := 10) (v := ?_) rfl (by kernel_rfl) (by kernel_rfl) (by kernel_rfl) (fun _ _ _ h => h) (Or.inl ⟨by rfl, ?_⟩) h1 ?_
  rotate_left 1
  · intro w' hS; clear hS
    go_simp <;> with_reducible rfl
  try simp only [Act.put, List.setIfInBounds_toArray, List.set_cons_zero, List.set_cons_succ]
  refine wpAnyH_takeAt (i := 11) (v := ?_) rfl (by kernel_rfl) (by kernel_rfl) (by kernel_rfl) (fun _ _ _ h => h) (Or.inl ⟨by rfl, ?_⟩) h1 ?_
  rotate_left 1
  · intro w' hS; clear hS
    go_simp <;> with_reducible rfl
  try simp only [Act.put, List.setIfInBounds_toArray, List.set_cons_zero, List.set_cons_succ]
  refine wpAnyH_done (by kernel_rfl) ?_ _
  refine NoPanic.normal ?_
  refine gen_world (fun W => Mb w i (.slice pv nv cv) W ∧ SlB W (.slice q9 l.length d9) l) ⟨h1.1, slb_of_owns hrow⟩ ?_
  clear h0 h1 hrow hb hmin hkc HSE H1
  rintro W0 ⟨h1, hsl⟩
  have hnw : i.words.length ≤ 40 := by rw [HIW.out, List.length_take]; omega
  have hnw : i.words.length ≤ 40 := by rw [HIW.out, List.length_take]; omega
  by_cases h0 : er = 0
  · have hz : ((er : Int) != 0) = false := by rw [h0]; rfl
    have hri : rightP i l := find_again HOK.out (h0 ▸ hans)
    have hw := whole_of HOK.out (h0 ▸ hans)
    have hfi := fitU_of HOK.out (h0 ▸ hans)
    have hfw := (AnsF.few hans).1
    have hn : (txI i).n = i.words.length := rfl
    have hlt : ∀ b ∈ l, b.1 < 4294967296 := fun b hb => by have := hw.small b hb; omega
    obtain ⟨n1, hn1⟩ : ∃ n, l.length = n := ⟨_, rfl⟩
    have hn40 : n1 ≤ 40 := by omega
    have hn0 : 1 ≤ n1 := by
      rw [← hn1]
      have := List.length_pos_of_mem hw.ent
      rwa [List.length_map] at this
    rw [hn1] at hsl
    rw [hn1]
    obtain ⟨gl, hg, hx0, hx1⟩ := hsl.at (List.getElem?_eq_getElem (l := l) (i := 0) (by omega))
    subst hg
    clear hx0 hx1
    have HN1 := hideE hn1
    have HLT := hideE hlt
    have HRI := hideE hri
    have HWH := hideE hw
    have HFI := hideE hfi
    have H1 := hideE h1
    have HSL := hideE hsl
    have hbx := h1.box
    have HLF := hideE (HLL.out.find i (.slice pv nv cv) (.slice (some ⟨gl, 0, none⟩) n1 d9) l (by omega) hlt HOK.out W0 h1.lw hsl)
    clear h0 hans hw hfw hn hlt hn1 h1 hsl hri hfi
    go_upto_region 6 with (first
      | (refine wpList_load_row rfl 25 _ rfl w.heap.size rfl _ _ _ _ hbx Tryz.underlying25 rfl (by kernel_rfl) ?_)
      | (go_at_call 9; refine HLF.out.mono ?_; rintro e wb ⟨a2, b2, er3, hans2, va, vb, rfl, hra, hrb, hb2⟩; obtain ⟨-, rfl, A, hA, rfl, rfl⟩ | ⟨hno, -, -, -⟩ := hans2; rotate_left 1; exact absurd HRI.out hno; obtain ⟨pa, ca, rfl⟩ := own_slice' hra; obtain ⟨pb, cb, rfl⟩ := own_slice' hrb))
    have hlA : (natL A).length = n1 := by
      rw [natL_len, hA.fx.len]; exact HN1.out
    have hlB : (natL (behL (flowI i l) A)).length = n1 := by
      rw [natL_len]; unfold behL; rw [List.length_map, List.length_range]; exact HN1.out
    have hsa := slw_of_owns hra
    have hsb := slw_of_owns hrb
    rw [hlA] at hsa hra
    rw [hlB] at hsb hrb
    rw [hlA, hlB]
    obtain ⟨ga, rfl⟩ := own_some hra (by omega)
    obtain ⟨gb, rfl⟩ := own_some hrb (by omega)
    refine gen_world (Fl w i (.slice pv nv cv) (.slice (some ⟨gl, 0, none⟩) n1 d9) (.slice (some ⟨ga, 0, none⟩) n1 ca) (.slice (some ⟨gb, 0, none⟩) n1 cb) l (natL A) (natL (behL (flowI i l) A))) ⟨H1.out.below hb2, HSL.out.below hb2, hsa, hsb⟩ ?_
    have HAL := hideE hA
    have HLA := hideE hlA
    clear H1 HSL HLF hbx hra hrb hb2 hsa hsb hlA hlB hA
    intro W1 h2
    go_upto_region 9 with fail
    go_loopg [10] n1 (fun q j W => ∃ k : Nat, k + q = n1 ∧ j = .int .i64 (k : Int) ∧ Fl w i (.slice pv nv cv) (.slice (some ⟨gl, 0, none⟩) n1 d9) (.slice (some ⟨ga, 0, none⟩) n1 ca) (.slice (some ⟨gb, 0, none⟩) n1 cb) l (natL A) (natL (behL (flowI i l) A)) W)
    case atStart => exact ⟨0, by omega, rfl, h2⟩
    case round =>
      clear h2
      obtain ⟨k, hkq, rfl, h2⟩ := hrel
      cases gk with
      | zero =>
        obtain rfl : k = n1 := by omega
        have hkk : ¬ ((k : Int) < (k : Int)) := by omega
        have hlow := h2.mb.low
        clear h2
        go_wp2_with (go_at_call 7; refine (fixed9_any HLL.out _).mono ?_; rintro e wf ⟨rfl, hbf⟩)
        go_ret
        exact ⟨rfl, hlow.trans (hbf.mono hlow.size)⟩
      | succ q =>
        have hkk : (k : Int) < (n1 : Int) := by omega
        have hk0 : (0 : Int) ≤ (k : Int) := by omega
        have hwk : IntKind.i64.wrap ((k : Int) + 1) = (k : Int) + 1 := wrE (by omega) (by omega)
        obtain ⟨⟨x, y⟩, hb⟩ : ∃ b, l[k]? = some b := ⟨l[k]'(by rw [HN1.out]; omega), List.getElem?_eq_getElem (by rw [HN1.out]; omega)⟩
        have hby := whole_code HOK.out HWH.out hb
        simp only at hby
        obtain ⟨ha, hbh⟩ := flow_row HAL.out hb
        refine gen_world (Fl w i (.slice pv nv cv) (.slice (some ⟨gl, 0, none⟩) n1 d9) (.slice (some ⟨ga, 0, none⟩) n1 ca) (.slice (some ⟨gb, 0, none⟩) n1 cb) l (natL A) (natL (behL (flowI i l) A))) h2 ?_
        clear h2
        intro Wo h2
        have hbx := h2.mb.box
        have hnx := rnext_any i (.slice pv nv cv) (.slice (some ⟨gl, 0, none⟩) n1 d9) l (k : Int) (by omega) (by omega) HFI.out HOK.out Wo h2.mb.lw h2.sl
        have hnl0 := leU_of_nxt i l (k : Int) HFI.out
        have hnin : ∀ j ∈ (nextV i l (k : Int)).1, j < n1 := fun j hj => by rw [← HN1.out]; exact next_in j hj
        have hbeh : behF (flowI i l) A k ≠ allB → behF (flowI i l) A k = orL A (nextV i l (k : Int)).1 := flow_beh
        obtain ⟨BK, hBK⟩ : ∃ B, behF (flowI i l) A k = B := ⟨_, rfl⟩
        rw [hBK] at ha hbh hbeh
        obtain ⟨N, hN⟩ : ∃ N, (nextV i l (k : Int)).1 = N := ⟨_, rfl⟩
        obtain ⟨aw, haw⟩ : ∃ aw, (nextV i l (k : Int)).2 = aw := ⟨_, rfl⟩
        rw [hN] at hnx hnin hnl0 hbeh
        rw [haw] at hnx
        have HNX := hideE hnx
        have HNIN := hideE hnin
        have HBE := hideE hbeh
        have HA1 := hideE ha
        have HB1 := hideE hbh
        have HB := hideE hb
        have HBY := hideE hby
        have H2 := hideE h2
        simp only [imgV] at HNX
        clear h2 hnx hnin hbeh ha hbh hN haw hBK hb hby
        go_upto_region 12 with (first
          | (refine wpList_load_row rfl 25 _ rfl w.heap.size rfl _ _ _ _ hbx Tryz.underlying25 rfl (by kernel_rfl) ?_)
          | (go_at_call 11; refine HNX.out.mono ?_; rintro e w6 ⟨un, rfl, hrn, hbn⟩; obtain ⟨pn, cn, rfl⟩ := own_slice' hrn))
        obtain ⟨nn, hnn⟩ : ∃ nn, N.length = nn := ⟨_, rfl⟩
        have hsi := sli_of_owns hrn
        rw [hnn] at hsi hnl0
        rw [hnn]
        refine gen_world (fun W => Fl w i (.slice pv nv cv) (.slice (some ⟨gl, 0, none⟩) n1 d9) (.slice (some ⟨ga, 0, none⟩) n1 ca) (.slice (some ⟨gb, 0, none⟩) n1 cb) l (natL A) (natL (behL (flowI i l) A)) W ∧ SlI8 W (.slice pn nn cn) N) ⟨H2.out.below hbn, hsi⟩ ?_
        have HNN := hideE hnn
        clear hbx HNX H2 hrn hbn hsi hnn
        rintro W3 ⟨h3, hsi⟩
        have H3 := hideE h3
        have HSI := hideE hsi
        clear h3 hsi
        go_upto_region 14 with fail
        go_loopg [13, 14] nn (fun q3 s13 j W => ∃ t : Nat, t + q3 = nn ∧ s13 = .int .u32 ((orK A N t).toNat : Int) ∧ j = .int .i64 (t : Int) ∧ W = W3)
        case atStart => exact ⟨0, by omega, rfl, rfl, rfl⟩
        case round =>
          obtain ⟨t, htq, rfl, rfl, hW⟩ := hrel
          have hwc := hW.symm
          subst hwc
          clear hW
          cases gk with
          | succ q3 =>
            have htn : (t : Int) < (nn : Int) := by omega
            have ht0 : (0 : Int) ≤ (t : Int) := by omega
            have hwt : IntKind.i64.wrap ((t : Int) + 1) = (t : Int) + 1 := wrE (by omega) (by omega)
            obtain ⟨u, hu⟩ : ∃ u, N[t]? = some u := ⟨N[t]'(by rw [HNN.out]; omega), List.getElem?_eq_getElem (by rw [HNN.out]; omega)⟩
            have hul := HNIN.out u (List.mem_of_getElem? hu)
            obtain ⟨gn, rfl, a3⟩ := HSI.out.at hu
            have a4 : W3.cell? ⟨ga, u, none⟩ = some (.int .u32 ((A.getD u (BitVec.ofNat 32 0)).toNat : Int)) := slw_cell H3.out.sa (natL_at (by have := HLA.out; rw [natL_len] at this; omega))
            have hun : (u : Int) < (n1 : Int) := by omega
            have hu0 : (0 : Int) ≤ (u : Int) := by omega
            have HOR := hideE (orK_succ A N t hu)
            obtain ⟨M0, hM0⟩ : ∃ M0, orK A N t = M0 := ⟨_, rfl⟩
            obtain ⟨Z, hZ⟩ : ∃ Z, A.getD u (BitVec.ofNat 32 0) = Z := ⟨_, rfl⟩
            obtain ⟨Y, hY⟩ : ∃ Y, M0 ||| Z = Y := ⟨_, rfl⟩
            have hor : bits .or .u32 (M0.toNat : Int) (Z.toNat : Int) = (Y.toNat : Int) := by rw [← hY]; exact Wd.or_ M0 Z
            rw [hM0, hZ, hY] at HOR
            rw [hZ] at a4
            rw [hM0]
            clear hu hul hM0 hZ hY
            go_wp2_with fail
            go_roundg q3
            case measure => omega
            case rel => exact ⟨t + 1, by omega, by rw [HOR.out], by simp, rfl⟩
          | zero =>
            obtain rfl : t = nn := by omega
            have htn : ¬ ((t : Int) < (t : Int)) := by omega
            have hoe : orK A N t = orL A N := by have h := orK_end A N; rw [HNN.out] at h; exact h
            rw [hoe]
            clear hoe
            obtain ⟨AV, hAV⟩ : ∃ v, (backB (codeI i (x, y)) BK).toNat = v := ⟨_, rfl⟩
            rw [hAV] at HA1
            have HAV := hideE hAV
            clear hAV
            have HCD : Hid (∀ W, SlW W (.slice pv nv cv) i.words → _) := hideE (fun W hW => rcode_any i (.slice pv nv cv) x y HBY.out.2 HOK.out W hW)
            simp only [imgV] at HCD
            by_cases hE : BK = allB
            · have hBV : (BK.toNat : Int) = 4294967294 := by rw [hE]; rfl
              have HBV := hideE hBV
              clear hE hBV
              go_upto_region 17 with fail
              refine wp_region_noPanic ?_
              refine wp_region_held_drew (S := (Fl w i (.slice pv nv cv) (.slice (some ⟨gl, 0, none⟩) n1 d9) (.slice (some ⟨ga, 0, none⟩) n1 ca) (.slice (some ⟨gb, 0, none⟩) n1 cb) l (natL A) (natL (behL (flowI i l) A)))) (by kernel_rfl) (H3.out.below (Below.refl _ _).drew) (fun h0 => ?_)
              refine wpAnyH_takeAt (i := 0) (v := ?_) rfl (by kernel_rfl) (by kernel_rfl) (by kernel_rfl) (fun _ _ _ h => h) (Or.inl ⟨by rfl, ?_⟩) h0 ?_
              rotate_left 1
              · intro w' hS; clear hS
                go_simp <;> with_reducible rfl
              try simp only [Act.put, List.setIfInBounds_toArray, List.set_cons_zero, List.set_cons_succ]
              refine wpAnyH_takeAt (i := 1) (v := ?_) rfl (by kernel_rfl) (by kernel_rfl) (by kernel_rfl) (fun _ _ _ h => h) (Or.inl ⟨by rfl, ?_⟩) h0 ?_
              rotate_left 1
              · intro w' hS; clear hS
                go_simp <;> with_reducible rfl
              try simp only [Act.put, List.setIfInBounds_toArray, List.set_cons_zero, List.set_cons_succ]
              refine wpAnyH_takeAt (i := 2) (v := ?_) rfl (by kernel_rfl) (by kernel_rfl) (by kernel_rfl) (fun _ _ _ h => h) (Or.inl ⟨by rfl, ?_⟩) h0 ?_
              rotate_left 1
              · intro w' hS; clear hS
                go_simp <;> with_reducible rfl
              try simp only [Act.put, List.setIfInBounds_toArray, List.set_cons_zero, List.set_cons_succ]
              refine wpAnyH_takeAt (i := 3) (v := ?_) rfl (by kernel_rfl) (by kernel_rfl) (by kernel_rfl) (fun _ _ _ h => h) (Or.inl ⟨by rfl, ?_⟩) h0 ?_
              rotate_left 1
              · intro w' hS; have c2 := slw_cell hS.sb HB1.out; rw [HBV.out] at c2; clear hS
                go_simp <;> with_reducible rfl
              try simp only [Act.put, List.setIfInBounds_toArray, List.set_cons_zero, List.set_cons_succ]
              refine wpAnyH_takeAt (i := 4) (v := ?_) rfl (by kernel_rfl) (by kernel_rfl) (by kernel_rfl) (fun _ _ _ h => h) (Or.inl ⟨by rfl, ?_⟩) h0 ?_
              rotate_left 1
              · intro w' hS; clear hS
                go_simp <;> with_reducible rfl
              try simp only [Act.put, List.setIfInBounds_toArray, List.set_cons_zero, List.set_cons_succ]
              refine wpAnyH_takeAt (i := 5) (v := ?_) rfl (by kernel_rfl) (by kernel_rfl) (by kernel_rfl) (fun _ _ _ h => h) (Or.inl ⟨by rfl, ?_⟩) h0 ?_
              rotate_left 1
              · intro w' hS; clear hS
                go_simp <;> with_reducible rfl
              try simp only [Act.put, List.setIfInBounds_toArray, List.set_cons_zero, List.set_cons_succ]
              refine wpAnyH_takeAt (i := 6) (v := undef) rfl (by kernel_rfl) (by kernel_rfl) (by kernel_rfl) (fun _ _ _ h => h) (Or.inr ⟨by rfl, rfl⟩) h0 ?_
              try simp only [Act.put, List.setIfInBounds_toArray, List.set_cons_zero, List.set_cons_succ]
              refine wpAnyH_takeAt (i := 7) (v := undef) rfl (by kernel_rfl) (by kernel_rfl) (by kernel_rfl) (fun _ _ _ h => h) (Or.inr ⟨by rfl, rfl⟩) h0 ?_
              try simp only [Act.put, List.setIfInBounds_toArray, List.set_cons_zero, List.set_cons_succ]
              refine wpAnyH_takeAt (i := 8) (v := undef) rfl (by kernel_rfl) (by kernel_rfl) (by kernel_rfl) (fun _ _ _ h => h) (Or.inr ⟨by rfl, rfl⟩) h0 ?_
              try simp only [Act.put, List.setIfInBounds_toArray, List.set_cons_zero, List.set_cons_succ]
              refine wpAnyH_takeAt (i := 9) (v := undef) rfl (by kernel_rfl) (by kernel_rfl) (by kernel_rfl) (fun _ _ _ h => h) (Or.inr ⟨by rfl, rfl⟩) h0 ?_
              try simp only [Act.put, List.setIfInBounds_toArray, List.set_cons_zero, List.set_cons_succ]
              refine wpAnyH_takeAt (i := 10) (v := undef) rfl (by kernel_rfl) (by kernel_rfl) (by kernel_rfl) (fun _ _ _ h => h) (Or.inr ⟨by rfl, rfl⟩) h0 ?_
              try simp only [Act.put, List.setIfInBounds_toArray, List.set_cons_zero, List.set_cons_succ]
              refine wpAnyH_takeAt (i := 11) (v := undef) rfl (by kernel_rfl) (by kernel_rfl) (by kernel_rfl) (fun _ _ _ h => h) (Or.inr ⟨by rfl, rfl⟩) h0 ?_
              try simp only [Act.put, List.setIfInBounds_toArray, List.set_cons_zero, List.set_cons_succ]
              refine wpAnyH_takeAt (i := 12) (v := ?_) rfl (by kernel_rfl) (by kernel_rfl) (by kernel_rfl) (fun _ _ _ h => h) (Or.inl ⟨by rfl, ?_⟩) h0 ?_
              rotate_left 1
              · intro w' hS; clear hS
                go_simp <;> with_reducible rfl
              try simp only [Act.put, List.setIfInBounds_toArray, List.set_cons_zero, List.set_cons_succ]
              refine wpAnyH_takeAt (i := 13) (v := ?_) rfl (by kernel_rfl) (by kernel_rfl) (by kernel_rfl) (fun _ _ _ h => h) (Or.inl ⟨by rfl, ?_⟩) h0 ?_
              rotate_left 1
              · intro w' hS; clear hS
                go_simp <;> with_reducible rfl
              try simp only [Act.put, List.setIfInBounds_toArray, List.set_cons_zero, List.set_cons_succ]
              refine wpAnyH_takeAt (i := 14) (v := ?_) rfl (by kernel_rfl) (by kernel_rfl) (by kernel_rfl) (fun _ _ _ h => h) (Or.inl ⟨by rfl, ?_⟩) h0 ?_
              rotate_left 1
              · intro w' hS; clear hS
                go_simp <;> with_reducible rfl
              try simp only [Act.put, List.setIfInBounds_toArray, List.set_cons_zero, List.set_cons_succ]
              refine wpAnyH_takeAt (i := 15) (v := ?_) rfl (by kernel_rfl) (by kernel_rfl) (by kernel_rfl) (fun _ _ _ h => h) (Or.inl ⟨by rfl, ?_⟩) h0 ?_
              rotate_left 1
              · intro w' hS; clear hS
                go_simp <;> with_reducible rfl
              try simp only [Act.put, List.setIfInBounds_toArray, List.set_cons_zero, List.set_cons_succ]
              refine wpAnyH_takeAt (i := 16) (v := ?_) rfl (by kernel_rfl) (by kernel_rfl) (by kernel_rfl) (fun _ _ _ h => h) (Or.inl ⟨by rfl, ?_⟩) h0 ?_
              rotate_left 1
              · intro w' hS; clear hS
                go_simp <;> with_reducible rfl
              try simp only [Act.put, List.setIfInBounds_toArray, List.set_cons_zero, List.set_cons_succ]
              refine wpAnyH_takeAt (i := 17) (v := ?_) rfl (by kernel_rfl) (by kernel_rfl) (by kernel_rfl) (fun _ _ _ h => h) (Or.inl ⟨by rfl, ?_⟩) h0 ?_
              rotate_left 1
              · intro w' hS; have c1 := slw_cell hS.sa HA1.out; clear hS
                go_simp <;> with_reducible rfl
              try simp only [Act.put, List.setIfInBounds_toArray, List.set_cons_zero, List.set_cons_succ]
              refine wpAnyH_takeAt (i := 18) (v := .agg (imgC i (.slice pv nv cv))) rfl (by kernel_rfl) (by kernel_rfl) (by kernel_rfl) (fun _ _ _ h => h) (yieldsIf_row (by rfl) _ _ rfl w.heap.size rfl _ _ _ _ (fun _ h => h.mb.box) Tryz.underlying25 rfl (by kernel_rfl)) h0 ?_
              simp only [Act.put, List.setIfInBounds_toArray, List.set_cons_zero, List.set_cons_succ]
              refine wpAnyH_takeAt (i := 19) (v := ?_) rfl (by kernel_rfl) (by kernel_rfl) (by kernel_rfl) (fun _ _ _ h => h) (Or.inl ⟨by rfl, ?_⟩) h0 ?_
              rotate_left 1
              · intro w' hS; clear hS
                go_simp <;> with_reducible rfl
              try simp only [Act.put, List.setIfInBounds_toArray, List.set_cons_zero, List.set_cons_succ]
              refine wpAnyH_takeAt (i := 20) (v := ?_) rfl (by kernel_rfl) (by kernel_rfl) (by kernel_rfl) (fun _ _ _ h => h) (Or.inl ⟨by rfl, ?_⟩) h0 ?_
              rotate_left 1
              · intro w' hS; clear hS
                go_simp <;> with_reducible rfl
              try simp only [Act.put, List.setIfInBounds_toArray, List.set_cons_zero, List.set_cons_succ]
              refine wpAnyH_takeAt (i := 21) (v := ?_) rfl (by kernel_rfl) (by kernel_rfl) (by kernel_rfl) (fun _ _ _ h => h) (Or.inl ⟨by rfl, ?_⟩) h0 ?_
              rotate_left 1
              · intro w' hS; clear hS
                go_simp <;> with_reducible rfl
              try simp only [Act.put, List.setIfInBounds_toArray, List.set_cons_zero, List.set_cons_succ]
              refine wpAnyH_takeAt (i := 22) (v := ?_) rfl (by kernel_rfl) (by kernel_rfl) (by kernel_rfl) (fun _ _ _ h => h) (Or.inl ⟨by rfl, ?_⟩) h0 ?_
              rotate_left 1
              · intro w' hS; have c3 := slb_at hS.sl HB.out; obtain ⟨c3, c4⟩ := c3; clear hS
                go_simp <;> with_reducible rfl
              try simp only [Act.put, List.setIfInBounds_toArray, List.set_cons_zero, List.set_cons_succ]
              refine wpAnyH_takeAt (i := 24) (v := ?_) rfl (by kernel_rfl) (by kernel_rfl) (by kernel_rfl) (fun _ _ _ h => h) (Or.inl ⟨by rfl, ?_⟩) h0 ?_
              rotate_left 1
              · intro w' hS; clear hS
                go_simp <;> with_reducible rfl
              try simp only [Act.put, List.setIfInBounds_toArray, List.set_cons_zero, List.set_cons_succ]
              refine wpAnyH_takeAt (i := 25) (v := ?_) rfl (by kernel_rfl) (by kernel_rfl) (by kernel_rfl) (fun _ _ _ h => h) (Or.inl ⟨by rfl, ?_⟩) h0 ?_
              rotate_left 1
              · intro w' hS; clear hS
                go_simp <;> with_reducible rfl
              try simp only [Act.put, List.setIfInBounds_toArray, List.set_cons_zero, List.set_cons_succ]
              refine wpAnyH_takeAt (i := 26) (v := ?_) rfl (by kernel_rfl) (by kernel_rfl) (by kernel_rfl) (fun _ _ _ h => h) (Or.inl ⟨by rfl, ?_⟩) h0 ?_
              rotate_left 1
              · intro w' hS; clear hS
                go_simp <;> with_reducible rfl
              try simp only [Act.put, List.setIfInBounds_toArray, List.set_cons_zero, List.set_cons_succ]
              refine wpAnyH_takeAt (i := 27) (v := ?_) rfl (by kernel_rfl) (by kernel_rfl) (by kernel_rfl) (fun _ _ _ h => h) (Or.inl ⟨by rfl, ?_⟩) h0 ?_
              rotate_left 1
              · intro w' hS; have c2 := slw_cell hS.sb HB1.out; rw [HBV.out] at c2; clear hS
                go_simp <;> with_reducible rfl
              try simp only [Act.put, List.setIfInBounds_toArray, List.set_cons_zero, List.set_cons_succ]
              refine wpAnyH_ready (rs := [23]) (by kernel_rfl) (by simp) (allReady_at rfl (fun K hK => ?_))
              go_simp
              refine (HCD.out _ h0.mb.lw).mono ?_
              rintro e w5 ⟨uc, rfl, hrc, hbc⟩
              dsimp only
              have h1 : Fl w i (.slice pv nv cv) (.slice (some ⟨gl, 0, none⟩) n1 d9) (.slice (some ⟨ga, 0, none⟩) n1 ca) (.slice (some ⟨gb, 0, none⟩) n1 cb) l (natL A) (natL (behL (flowI i l) A)) w5 := h0.below hbc
              refine hK.out _ _ h1 (fun _ => ?_)
              clear hK K
              try simp only [Act.put, List.setIfInBounds_toArray, List.set_cons_zero, List.set_cons_succ]
              have hsn := SlN.of_owns (l := codeI i (x, y)) (by rw [code_len]; exact hrc)
              have hbq := HLL.out.back (codeI i (x, y)) uc BK (by rw [code_len]; exact HBY.out.2) w5 hsn
              rw [HAV.out, HBV.out] at hbq
              refine wpAnyH_ready (rs := [28]) (by kernel_rfl) (by simp) (allReady_at rfl (fun K hK => ?_))
              go_simp
              refine (hbq).mono ?_
              rintro e w7 ⟨rfl, hbd⟩
              dsimp only
              have h4 : Fl w i (.slice pv nv cv) (.slice (some ⟨gl, 0, none⟩) n1 d9) (.slice (some ⟨ga, 0, none⟩) n1 ca) (.slice (some ⟨gb, 0, none⟩) n1 cb) l (natL A) (natL (behL (flowI i l) A)) w7 := h1.below hbd
              refine hK.out _ _ h4 (fun _ => ?_)
              clear hK K
              try simp only [Act.put, List.setIfInBounds_toArray, List.set_cons_zero, List.set_cons_succ]
              refine wpAnyH_takeAt (i := 29) (v := ?_) rfl (by kernel_rfl) (by kernel_rfl) (by kernel_rfl) (fun _ _ _ h => h) (Or.inl ⟨by rfl, ?_⟩) h4 ?_
              rotate_left 1
              · intro w' hS; clear hS
                go_simp <;> with_reducible rfl
              try simp only [Act.put, List.setIfInBounds_toArray, List.set_cons_zero, List.set_cons_succ]
              refine wpAnyH_takeAt (i := 30) (v := ?_) rfl (by kernel_rfl) (by kernel_rfl) (by kernel_rfl) (fun _ _ _ h => h) (Or.inl ⟨by rfl, ?_⟩) h4 ?_
              rotate_left 1
              · intro w' hS; clear hS
                go_simp <;> with_reducible rfl
              try simp only [Act.put, List.setIfInBounds_toArray, List.set_cons_zero, List.set_cons_succ]
              refine wpAnyH_done (by kernel_rfl) ?_ _
              refine NoPanic.normal ?_
              refine gen_world (Fl w i (.slice pv nv cv) (.slice (some ⟨gl, 0, none⟩) n1 d9) (.slice (some ⟨ga, 0, none⟩) n1 ca) (.slice (some ⟨gb, 0, none⟩) n1 cb) l (natL A) (natL (behL (flowI i l) A))) h4 ?_
              clear h0 h1 h4 hrc hbc hbd hsn hbq H3 HSI HCD
              intro W9 h5
              go_wp2_with fail
              go_roundg q
              case measure => omega
              case rel => exact ⟨k + 1, by omega, by simp, h5⟩
            · have hM := HBE.out hE
              obtain ⟨B1, hB1⟩ : ∃ b, BK.toNat = b := ⟨_, rfl⟩
              have hB2 : (orL A N).toNat = B1 := by rw [← hM]; exact hB1
              have hne : ((B1 : Int) != 4294967294) = true := bne_iff_ne.2 (fun e => hE (BitVec.eq_of_toNat_eq (by rw [hB1]; show B1 = 4294967294; omega)))
              have hBV : (BK.toNat : Int) = (B1 : Int) := by rw [hB1]
              rw [hB2]
              rw [hB1] at HB1
              have HBV := hideE hBV
              clear hE hM hB1 hB2 hBV
              go_upto_region 17 with fail
              refine wp_region_noPanic ?_
              refine wp_region_held_drew (S := (Fl w i (.slice pv nv cv) (.slice (some ⟨gl, 0, none⟩) n1 d9) (.slice (some ⟨ga, 0, none⟩) n1 ca) (.slice (some ⟨gb, 0, none⟩) n1 cb) l (natL A) (natL (behL (flowI i l) A)))) (by kernel_rfl) (H3.out.below (Below.refl _ _).drew) (fun h0 => ?_)
              refine wpAnyH_takeAt (i := 0) (v := ?_) rfl (by kernel_rfl) (by kernel_rfl) (by kernel_rfl) (fun _ _ _ h => h) (Or.inl ⟨by rfl, ?_⟩) h0 ?_
              rotate_left 1
              · intro w' hS; clear hS
                go_simp <;> with_reducible rfl
              try simp only [Act.put, List.setIfInBounds_toArray, List.set_cons_zero, List.set_cons_succ]
              refine wpAnyH_takeAt (i := 1) (v := ?_) rfl (by kernel_rfl) (by kernel_rfl) (by kernel_rfl) (fun _ _ _ h => h) (Or.inl ⟨by rfl, ?_⟩) h0 ?_
              rotate_left 1
              · intro w' hS; clear hS
                go_simp <;> with_reducible rfl
              try simp only [Act.put, List.setIfInBounds_toArray, List.set_cons_zero, List.set_cons_succ]
              refine wpAnyH_takeAt (i := 2) (v := ?_) rfl (by kernel_rfl) (by kernel_rfl) (by kernel_rfl) (fun _ _ _ h => h) (Or.inl ⟨by rfl, ?_⟩) h0 ?_
              rotate_left 1
              · intro w' hS; clear hS
                go_simp <;> with_reducible rfl
              try simp only [Act.put, List.setIfInBounds_toArray, List.set_cons_zero, List.set_cons_succ]
              refine wpAnyH_takeAt (i := 3) (v := ?_) rfl (by kernel_rfl) (by kernel_rfl) (by kernel_rfl) (fun _ _ _ h => h) (Or.inl ⟨by rfl, ?_⟩) h0 ?_
              rotate_left 1
              · intro w' hS; have c2 := slw_cell hS.sb HB1.out; clear hS
                go_simp <;> with_reducible rfl
              try simp only [Act.put, List.setIfInBounds_toArray, List.set_cons_zero, List.set_cons_succ]
              refine wpAnyH_takeAt (i := 4) (v := .bool true) rfl (by kernel_rfl) (by kernel_rfl) (by kernel_rfl) (fun _ _ _ h => h) (Or.inl ⟨by rfl, ?_⟩) h0 ?_
              · intro w' hS; clear hS
                go_simp
              try simp only [Act.put, List.setIfInBounds_toArray, List.set_cons_zero, List.set_cons_succ]
              refine wpAnyH_takeAt (i := 5) (v := ?_) rfl (by kernel_rfl) (by kernel_rfl) (by kernel_rfl) (fun _ _ _ h => h) (Or.inl ⟨by rfl, ?_⟩) h0 ?_
              rotate_left 1
              · intro w' hS; clear hS
                go_simp <;> with_reducible rfl
              try simp only [Act.put, List.setIfInBounds_toArray, List.set_cons_zero, List.set_cons_succ]
              refine wpAnyH_takeAt (i := 6) (v := ?_) rfl (by kernel_rfl) (by kernel_rfl) (by kernel_rfl) (fun _ _ _ h => h) (Or.inl ⟨by rfl, ?_⟩) h0 ?_
              rotate_left 1
              · intro w' hS; clear hS
                go_simp <;> with_reducible rfl
              try simp only [Act.put, List.setIfInBounds_toArray, List.set_cons_zero, List.set_cons_succ]
              refine wpAnyH_takeAt (i := 7) (v := ?_) rfl (by kernel_rfl) (by kernel_rfl) (by kernel_rfl) (fun _ _ _ h => h) (Or.inl ⟨by rfl, ?_⟩) h0 ?_
              rotate_left 1
              · intro w' hS; clear hS
                go_simp <;> with_reducible rfl
              try simp only [Act.put, List.setIfInBounds_toArray, List.set_cons_zero, List.set_cons_succ]
              refine wpAnyH_takeAt (i := 8) (v := ?_) rfl (by kernel_rfl) (by kernel_rfl) (by kernel_rfl) (fun _ _ _ h => h) (Or.inl ⟨by rfl, ?_⟩) h0 ?_
              rotate_left 1
              · intro w' hS; clear hS
                go_simp <;> with_reducible rfl
              try simp only [Act.put, List.setIfInBounds_toArray, List.set_cons_zero, List.set_cons_succ]
              refine wpAnyH_takeAt (i := 9) (v := ?_) rfl (by kernel_rfl) (by kernel_rfl) (by kernel_rfl) (fun _ _ _ h => h) (Or.inl ⟨by rfl, ?_⟩) h0 ?_
              rotate_left 1
              · intro w' hS; have c2 := slw_cell hS.sb HB1.out; clear hS
                go_simp <;> with_reducible rfl
              try simp only [Act.put, List.setIfInBounds_toArray, List.set_cons_zero, List.set_cons_succ]
              refine wpAnyH_takeAt (i := 10) (v := ?_) rfl (by kernel_rfl) (by kernel_rfl) (by kernel_rfl) (fun _ _ _ h => h) (Or.inl ⟨by rfl, ?_⟩) h0 ?_
              rotate_left 1
              · intro w' hS; clear hS
                go_simp <;> with_reducible rfl
              try simp only [Act.put, List.setIfInBounds_toArray, List.set_cons_zero, List.set_cons_succ]
              refine wpAnyH_takeAt (i := 11) (v := ?_) rfl (by kernel_rfl) (by kernel_rfl) (by kernel_rfl) (fun _ _ _ h => h) (Or.inl ⟨by rfl, ?_⟩) h0 ?_
              rotate_left 1
              · intro w' hS; clear hS
                go_simp <;> with_reducible rfl
              try simp only [Act.put, List.setIfInBounds_toArray, List.set_cons_zero, List.set_cons_succ]
              refine wpAnyH_takeAt (i := 12) (v := ?_) rfl (by kernel_rfl) (by kernel_rfl) (by kernel_rfl) (fun _ _ _ h => h) (Or.inl ⟨by rfl, ?_⟩) h0 ?_
              rotate_left 1
              · intro w' hS; clear hS
                go_simp <;> with_reducible rfl
              try simp only [Act.put, List.setIfInBounds_toArray, List.set_cons_zero, List.set_cons_succ]
              refine wpAnyH_takeAt (i := 13) (v := ?_) rfl (by kernel_rfl) (by kernel_rfl) (by kernel_rfl) (fun _ _ _ h => h) (Or.inl ⟨by rfl, ?_⟩) h0 ?_
              rotate_left 1
              · intro w' hS; clear hS
                go_simp <;> with_reducible rfl
              try simp only [Act.put, List.setIfInBounds_toArray, List.set_cons_zero, List.set_cons_succ]
              refine wpAnyH_takeAt (i := 14) (v := ?_) rfl (by kernel_rfl) (by kernel_rfl) (by kernel_rfl) (fun _ _ _ h => h) (Or.inl ⟨by rfl, ?_⟩) h0 ?_
              rotate_left 1
              · intro w' hS; clear hS
                go_simp <;> with_reducible rfl
              try simp only [Act.put, List.setIfInBounds_toArray, List.set_cons_zero, List.set_cons_succ]
              refine wpAnyH_takeAt (i := 15) (v := ?_) rfl (by kernel_rfl) (by kernel_rfl) (by kernel_rfl) (fun _ _ _ h => h) (Or.inl ⟨by rfl, ?_⟩) h0 ?_
              rotate_left 1
              · intro w' hS; clear hS
                go_simp <;> with_reducible rfl
              try simp only [Act.put, List.setIfInBounds_toArray, List.set_cons_zero, List.set_cons_succ]
              refine wpAnyH_takeAt (i := 16) (v := ?_) rfl (by kernel_rfl) (by kernel_rfl) (by kernel_rfl) (fun _ _ _ h => h) (Or.inl ⟨by rfl, ?_⟩) h0 ?_
              rotate_left 1
              · intro w' hS; clear hS
                go_simp <;> with_reducible rfl
              try simp only [Act.put, List.setIfInBounds_toArray, List.set_cons_zero, List.set_cons_succ]
              refine wpAnyH_takeAt (i := 17) (v := ?_) rfl (by kernel_rfl) (by kernel_rfl) (by kernel_rfl) (fun _ _ _ h => h) (Or.inl ⟨by rfl, ?_⟩) h0 ?_
              rotate_left 1
              · intro w' hS; have c1 := slw_cell hS.sa HA1.out; clear hS
                go_simp <;> with_reducible rfl
              try simp only [Act.put, List.setIfInBounds_toArray, List.set_cons_zero, List.set_cons_succ]
              refine wpAnyH_takeAt (i := 18) (v := .agg (imgC i (.slice pv nv cv))) rfl (by kernel_rfl) (by kernel_rfl) (by kernel_rfl) (fun _ _ _ h => h) (yieldsIf_row (by rfl) _ _ rfl w.heap.size rfl _ _ _ _ (fun _ h => h.mb.box) Tryz.underlying25 rfl (by kernel_rfl)) h0 ?_
              simp only [Act.put, List.setIfInBounds_toArray, List.set_cons_zero, List.set_cons_succ]
              refine wpAnyH_takeAt (i := 19) (v := ?_) rfl (by kernel_rfl) (by kernel_rfl) (by kernel_rfl) (fun _ _ _ h => h) (Or.inl ⟨by rfl, ?_⟩) h0 ?_
              rotate_left 1
              · intro w' hS; clear hS
                go_simp <;> with_reducible rfl
              try simp only [Act.put, List.setIfInBounds_toArray, List.set_cons_zero, List.set_cons_succ]
              refine wpAnyH_takeAt (i := 20) (v := ?_) rfl (by kernel_rfl) (by kernel_rfl) (by kernel_rfl) (fun _ _ _ h => h) (Or.inl ⟨by rfl, ?_⟩) h0 ?_
              rotate_left 1
              · intro w' hS; clear hS
                go_simp <;> with_reducible rfl
              try simp only [Act.put, List.setIfInBounds_toArray, List.set_cons_zero, List.set_cons_succ]
              refine wpAnyH_takeAt (i := 21) (v := ?_) rfl (by kernel_rfl) (by kernel_rfl) (by kernel_rfl) (fun _ _ _ h => h) (Or.inl ⟨by rfl, ?_⟩) h0 ?_
              rotate_left 1
              · intro w' hS; clear hS
                go_simp <;> with_reducible rfl
              try simp only [Act.put, List.setIfInBounds_toArray, List.set_cons_zero, List.set_cons_succ]
              refine wpAnyH_takeAt (i := 22) (v := ?_) rfl (by kernel_rfl) (by kernel_rfl) (by kernel_rfl) (fun _ _ _ h => h) (Or.inl ⟨by rfl, ?_⟩) h0 ?_
              rotate_left 1
              · intro w' hS; have c3 := slb_at hS.sl HB.out; obtain ⟨c3, c4⟩ := c3; clear hS
                go_simp <;> with_reducible rfl
              try simp only [Act.put, List.setIfInBounds_toArray, List.set_cons_zero, List.set_cons_succ]
              refine wpAnyH_takeAt (i := 24) (v := ?_) rfl (by kernel_rfl) (by kernel_rfl) (by kernel_rfl) (fun _ _ _ h => h) (Or.inl ⟨by rfl, ?_⟩) h0 ?_
              rotate_left 1
              · intro w' hS; clear hS
                go_simp <;> with_reducible rfl
              try simp only [Act.put, List.setIfInBounds_toArray, List.set_cons_zero, List.set_cons_succ]
              refine wpAnyH_takeAt (i := 25) (v := ?_) rfl (by kernel_rfl) (by kernel_rfl) (by kernel_rfl) (fun _ _ _ h => h) (Or.inl ⟨by rfl, ?_⟩) h0 ?_
              rotate_left 1
              · intro w' hS; clear hS
                go_simp <;> with_reducible rfl
              try simp only [Act.put, List.setIfInBounds_toArray, List.set_cons_zero, List.set_cons_succ]
              refine wpAnyH_takeAt (i := 26) (v := ?_) rfl (by kernel_rfl) (by kernel_rfl) (by kernel_rfl) (fun _ _ _ h => h) (Or.inl ⟨by rfl, ?_⟩) h0 ?_
              rotate_left 1
              · intro w' hS; clear hS
                go_simp <;> with_reducible rfl
              try simp only [Act.put, List.setIfInBounds_toArray, List.set_cons_zero, List.set_cons_succ]
              refine wpAnyH_takeAt (i := 27) (v := ?_) rfl (by kernel_rfl) (by kernel_rfl) (by kernel_rfl) (fun _ _ _ h => h) (Or.inl ⟨by rfl, ?_⟩) h0 ?_
              rotate_left 1
              · intro w' hS; have c2 := slw_cell hS.sb HB1.out; clear hS
                go_simp <;> with_reducible rfl
              try simp only [Act.put, List.setIfInBounds_toArray, List.set_cons_zero, List.set_cons_succ]
              refine wpAnyH_ready (rs := [23]) (by kernel_rfl) (by simp) (allReady_at rfl (fun K hK => ?_))
              go_simp
              refine (HCD.out _ h0.mb.lw).mono ?_
              rintro e w5 ⟨uc, rfl, hrc, hbc⟩
              dsimp only
              have h1 : Fl w i (.slice pv nv cv) (.slice (some ⟨gl, 0, none⟩) n1 d9) (.slice (some ⟨ga, 0, none⟩) n1 ca) (.slice (some ⟨gb, 0, none⟩) n1 cb) l (natL A) (natL (behL (flowI i l) A)) w5 := h0.below hbc
              refine hK.out _ _ h1 (fun _ => ?_)
              clear hK K
              try simp only [Act.put, List.setIfInBounds_toArray, List.set_cons_zero, List.set_cons_succ]
              have hsn := SlN.of_owns (l := codeI i (x, y)) (by rw [code_len]; exact hrc)
              have hbq := HLL.out.back (codeI i (x, y)) uc BK (by rw [code_len]; exact HBY.out.2) w5 hsn
              rw [HAV.out, HBV.out] at hbq
              refine wpAnyH_ready (rs := [28]) (by kernel_rfl) (by simp) (allReady_at rfl (fun K hK => ?_))
              go_simp
              refine (hbq).mono ?_
              rintro e w7 ⟨rfl, hbd⟩
              dsimp only
              have h4 : Fl w i (.slice pv nv cv) (.slice (some ⟨gl, 0, none⟩) n1 d9) (.slice (some ⟨ga, 0, none⟩) n1 ca) (.slice (some ⟨gb, 0, none⟩) n1 cb) l (natL A) (natL (behL (flowI i l) A)) w7 := h1.below hbd
              refine hK.out _ _ h4 (fun _ => ?_)
              clear hK K
              try simp only [Act.put, List.setIfInBounds_toArray, List.set_cons_zero, List.set_cons_succ]
              refine wpAnyH_takeAt (i := 29) (v := ?_) rfl (by kernel_rfl) (by kernel_rfl) (by kernel_rfl) (fun _ _ _ h => h) (Or.inl ⟨by rfl, ?_⟩) h4 ?_
              rotate_left 1
              · intro w' hS; clear hS
                go_simp <;> with_reducible rfl
              try simp only [Act.put, List.setIfInBounds_toArray, List.set_cons_zero, List.set_cons_succ]
              refine wpAnyH_takeAt (i := 30) (v := ?_) rfl (by kernel_rfl) (by kernel_rfl) (by kernel_rfl) (fun _ _ _ h => h) (Or.inl ⟨by rfl, ?_⟩) h4 ?_
              rotate_left 1
              · intro w' hS; clear hS
                go_simp <;> with_reducible rfl
              try simp only [Act.put, List.setIfInBounds_toArray, List.set_cons_zero, List.set_cons_succ]
              refine wpAnyH_done (by kernel_rfl) ?_ _
              refine NoPanic.normal ?_
              refine gen_world (Fl w i (.slice pv nv cv) (.slice (some ⟨gl, 0, none⟩) n1 d9) (.slice (some ⟨ga, 0, none⟩) n1 ca) (.slice (some ⟨gb, 0, none⟩) n1 cb) l (natL A) (natL (behL (flowI i l) A))) h4 ?_
              clear h0 h1 h4 hrc hbc hbd hsn hbq H3 HSI HCD
              intro W9 h5
              go_wp2_with fail
              go_roundg q
              case measure => omega
              case rel => exact ⟨k + 1, by omega, by simp, h5⟩
  · have hz : ((er : Int) != 0) = true := bne_iff_ne.2 (by omega)
    have hlow := h1.low
    clear h0 hans h1 hsl
    go_wp2_with (go_at_call 7; refine (fixed9_any HLL.out _).mono ?_; rintro e wf ⟨rfl, hbf⟩)
    go_ret
    exact ⟨rfl, hlow.trans (hbf.mono hlow.size)⟩
end Go.Proofs.YtcffpmicencfpaaGreat
namespace Go.Proofs.YtcffpmicencfpaaGreat.liveFlows
open Go.ChangeShapes Go.WideShapes Go.ChangeAt Go.RowKit
open Go.ChangeMaps (open_string shut_string)
set_option linter.unusedVariables false

theorem own : ownKnob Tryz.prog.godebug = none := by kernel_rfl

set_option maxRecDepth 100000 in
theorem lifted (os : Os) (started : os.Started) (H : Type) (enc : TypeId × Value → H) :
    ReturnsInHanded {} Tryz.checked os 4 .any (Rows.liveFlowsSpec.pre6 enc Tryz.prog Tryz.f4 Rows.liveFlowsRow.domain false) (Rows.liveFlowsSpec.post enc Tryz.prog Tryz.f4 false true false false) := by
  refine returnsInHanded_of_change (C := Tryz.checked) own started (by kernel_rfl) Tryz.func4
    (ChangeSpec.witness6 (enc := enc) (C := Tryz.checked) false ⟨#[], #[.agg #[.int .u32 0, .int .u32 0, .slice none 0 0, .int .i64 0], .slice none 0 0], []⟩ 8 (by kernel_rfl) (by kernel_rfl) (by kernel_rfl) (by kernel_rfl)) ?_
  intro W base args ds gs before hval0 hW hcnd _
  have hval : ∀ (j : Nat) t v, Tryz.f4.params[j]? = some t → args[j]? = some v → Value.okWide Tryz.prog W .any base t v := hval0
  have hW' := hW
  obtain ⟨p, q, hA0, hV, rfl, hfz, hnd⟩ := hW
  have hA : DataW.TrodAll enc Tryz.prog W 0 (fun _ => true) true Tryz.f4.params.toList args.toList ds p := hA0
  rw [Tryz.params4] at hA hval
  obtain ⟨v0, vs0, d0, ds0, p0, q0, hargs, rfl, rfl, h0, r0⟩ := trodAll_cons hA
  obtain ⟨v1, vs1, d1, ds1, p1, q1, rfl, rfl, rfl, h1, r1⟩ := trodAll_cons r0
  obtain ⟨rfl, rfl, rfl⟩ := trodAll_nil r1
  obtain rfl : args = #[v0, v1] := by cases args; simp_all
  obtain ⟨rfl, rfl⟩ := trodVars_none hV
  have hlt : ∀ x ∈ p0 ++ p1, x.block < W.heap.size := fun x hx => by simpa using hW'.lt x (by simpa using hx)
  have k0 := h0
  have l0 : ∀ x ∈ p0, x.block < W.heap.size := fun x hx => hlt x (by simp [hx])
  have k1 := h1
  have l1 : ∀ x ∈ p1, x.block < W.heap.size := fun x hx => hlt x (by simp [hx])
  obtain ⟨ba0, be0, u0, wi0, sg0, rfl, hs0, hw0, hg0⟩ := open_img (hval 0 25 v0 rfl rfl) h0
  obtain ⟨ws1, hs1, hw1, hp1⟩ := open_words (hval 1 23 v1 rfl rfl) h1
  clear hA0 hval0
  refine (liveFlows_walk lv9 ba0 be0 u0 wi0 sg0 ws1 v1 W hs0 hw0 hg0 hs1 hw1 hp1).mono fun e W' ⟨he, hg⟩ => ?_
  subst he
  exact ⟨_, rfl, _, _, _, [], _, [], hW', trodAll_mk1 (shut_bool Tryz.underlying4 _), (trodAll_cons_mk (Below.trod laidOut6 (by kernel_rfl) (of_decide_eq_true (by kernel_rfl)) k0 hg l0) (trodAll_cons_mk (Below.trod laidOut6 (by kernel_rfl) (of_decide_eq_true (by kernel_rfl)) k1 hg l1) trodAll_mk0)), rfl, hg.frame _, fun h => by cases h⟩

theorem over : Rows.liveFlowsRow.holds Tryz.pinned (OpenSpec.ofChange Rows.liveFlowsSpec) :=
  OpenClaim.holds_of_wide 4 Tryz.f4 rfl rfl rfl rfl rfl rfl rfl ⟨rfl, rfl, rfl, rfl, rfl⟩ rfl rfl rfl rfl rfl (by kernel_rfl) Tryz.func4 (by kernel_rfl)
    (of_decide_eq_true (by kernel_rfl)) (by unfold Func.isWrapper; first | (rw [if_pos (by decide +kernel)]; kernel_rfl) | (rw [if_neg (by decide +kernel)]; exact ⟨rfl, rfl⟩))
    (fun os started H enc _ => lifted os started H enc)

theorem proved : Rows.LiveFlowsSaid :=
  over
#print axioms proved
end Go.Proofs.YtcffpmicencfpaaGreat.liveFlows
