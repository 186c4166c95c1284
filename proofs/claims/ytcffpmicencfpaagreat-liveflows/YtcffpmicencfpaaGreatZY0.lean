/-
  The walk of the document's Find (layer 9).
-/

import Derived.Test.YtcffpmicencfpaaGreatZD4
import Derived.Test.YtcffpmicencfpaaGreatZY9
namespace Go.Proofs.YtcffpmicencfpaaGreat
open Go.RowKit Go.Lib Go.Sort Ip Bl Lv Pm
set_option linter.unusedSimpArgs false
set_option linter.unusedVariables false

theorem whole_code {i : Img} {l : List (Nat × Nat)} (hi : i.ok) (hw : Whole i l) {k : Nat} {b : Nat × Nat} (h : l[k]? = some b) : 1 ≤ b.2 ∧ b.2 ≤ 1000000 := by
  have h1 := hw.small b (List.mem_of_getElem? h)
  have h2 := hi.2.2.1
  omega
theorem blkAt_of {l : List (Nat × Nat)} {k : Nat} {b : Nat × Nat} (h : l[k]? = some b) : blkAt l k = b := by unfold blkAt; rw [List.getD_eq_getElem?_getD, h]; rfl
theorem beh_loose {F : Fw} {A : List (BitVec 32)} {k : Nat} (h : F.loose k = true) : behF F A k = allB := by unfold behF; rw [if_pos h]
theorem beh_next {F : Fw} {A : List (BitVec 32)} {k : Nat} (h : F.loose k = false) : behF F A k = orL A (F.next k) := by unfold behF; rw [if_neg (by rw [h]; simp)]
set_option maxHeartbeats 8000000 in
set_option maxRecDepth 100000 in
theorem rfind9_any (i : Img) (v vl : Value) (l : List (Nat × Nat)) (hl : l.length ≤ 1000) (hlt : ∀ b ∈ l, b.1 < 4294967296) (hi : i.ok) (w : World) (hS : SlW w v i.words) (hB : SlB w vl l) :
    Calls Tryz.prog 8 #[imgV i v, vl] w fun e W' => ∃ (a b : List Nat) (er : Nat), AnsL i l a b er ∧ ∃ ua ub : Value, e = .returned (.tuple #[ua, ub, .int .i64 (er : Int)]) ∧ SlW W' ua a ∧ SlW W' ub b ∧ Below w.heap.size w W' := by
  obtain ⟨p0, q0, rfl, _⟩ := hS.len
  obtain ⟨pb, qb, rfl⟩ := hB.len
  obtain ⟨n1, hn1⟩ : ∃ n, l.length = n := ⟨_, rfl⟩
  have b0 : Below w.heap.size w (w.alloc (.cells (imgC i (.slice p0 i.words.length q0)) 25)) := (Below.refl _ w).alloc (Nat.le_refl _) _
  have HRR := hideE (rright9_any i (.slice p0 i.words.length q0) (.slice pb l.length qb) l hl hlt hi _ (hS.below b0) (hB.below b0))
  rw [hn1] at hB hl HRR
  rw [hn1]
  have HN1 := hideE hn1
  have hib := heap_alloc_new w (.cells (imgC i (.slice p0 i.words.length q0)) 25)
  have HS := hideE hS
  have HSL := hideE hB
  have HI := hideE hi
  have HB0 := hideE b0
  clear hS hB hi hlt hn1 b0
  simp only [imgV] at HRR ⊢
  go_enter Tryz.func8, Tryz.ntmps8
  go_upto_if 20 with (first
    | (refine wpList_load_row rfl 25 _ rfl w.heap.size rfl _ _ _ _ hib Tryz.underlying25 rfl (by kernel_rfl) ?_)
    | (go_at_call 21; refine HRR.out.mono ?_; rintro e wa ⟨R, rfl, hR, hba⟩))
  have hba1 := HB0.out.trans (hba.mono (by simp))
  have hib1 := keptN hba hib
  have hsz1 := hba.size
  rw [World.size_alloc] at hsz1
  have HR := hideE hR
  have HLO := hideE hba1
  have HIB := hideE hib1
  clear hR hba hba1 hib hib1 HRR HB0
  cases R with
  | false =>
    have HAns : Hid (AnsL i l [] [] 1) := .inr ⟨fun e => (by have := HR.out.2 e; cases this), rfl, rfl, rfl⟩
    go_wp2_with fail
    go_ret3
    exact ⟨[], [], 1, HAns.out, _, _, rfl, .inl ⟨none, 0, rfl, rfl⟩, .inl ⟨none, 0, rfl, rfl⟩, HLO.out⟩
  | true =>
    have hr := HR.out.1 rfl
    have HRI := hideE hr
    have HW := hideE (whole_of HI.out hr)
    have HFI := hideE (fitU_of HI.out hr)
    obtain ⟨M, hmk, hM⟩ := makeU n1 hl
    have HM := hideE hM
    have HQ : Hid (∀ W, W.heap[w.heap.size]? = some (.cells (imgC i (.slice p0 i.words.length q0)) 25 (0, 0)) → Below w.heap.size w W → w.heap.size + 1 ≤ W.heap.size →
        Q2 w i (.slice p0 i.words.length q0) (.slice (some ⟨W.heap.size, 0, none⟩) n1 n1) (.slice (some ⟨W.heap.size + 1, 0, none⟩) n1 n1) n1 (List.replicate n1 (BitVec.ofNat 32 0)) (List.replicate n1 (BitVec.ofNat 32 0)) ((W.alloc (.cells M 22)).alloc (.cells M 22)) ∧
        Q2 w i (.slice p0 i.words.length q0) (.slice (some ⟨W.heap.size + 1, 0, none⟩) n1 n1) (.slice (some ⟨W.heap.size, 0, none⟩) n1 n1) n1 (List.replicate n1 (BitVec.ofNat 32 0)) (List.replicate n1 (BitVec.ofNat 32 0)) ((W.alloc (.cells M 22)).alloc (.cells M 22))) := by
      intro W h1 h2 h3
      have e : ((natL (List.replicate n1 (BitVec.ofNat 32 0))).map wordV).length = n1 := by rw [List.length_map, natL_len, List.length_replicate]
      have r1 := (owns_made HM.out e hl W (B0 := w.heap.size + 1) h3).alloc (.cells M 22)
      have r2 := owns_made HM.out e hl (W.alloc (.cells M 22)) (B0 := w.heap.size + 1) (by rw [World.size_alloc]; omega)
      rw [World.size_alloc] at r2
      have hb := (h2.alloc h2.size (.cells M 22)).alloc (by rw [World.size_alloc]; have := h2.size; omega) (.cells M 22)
      have hi2 := keptN ((Below.refl _ (W.alloc (.cells M 22))).alloc (Nat.le_refl _) (.cells M 22)) (keptN ((Below.refl _ W).alloc (Nat.le_refl _) (.cells M 22)) h1)
      have hs : w.heap.size + 1 ≤ ((W.alloc (.cells M 22)).alloc (.cells M 22)).heap.size := by simp; omega
      exact ⟨⟨hi2, r1, r2, fun k e1 e2 => by cases e1; exact absurd (Option.some.inj e2) (Nat.succ_ne_self W.heap.size), hb, hs⟩, ⟨hi2, r2, r1, fun k e1 e2 => by cases e1; exact absurd (Option.some.inj e2).symm (Nat.succ_ne_self W.heap.size), hb, hs⟩⟩
    clear hr hM
    go_upto_region 3 with fail
    go_cut [7, 8] (fun s7 s8 W => ∃ ga gb, s7 = .slice (some ⟨ga, 0, none⟩) n1 n1 ∧ s8 = .slice (some ⟨gb, 0, none⟩) n1 n1 ∧ Q2 w i (.slice p0 i.words.length q0) (.slice (some ⟨ga, 0, none⟩) n1 n1) (.slice (some ⟨gb, 0, none⟩) n1 n1) n1 (List.replicate n1 (BitVec.ofNat 32 0)) (List.replicate n1 (BitVec.ofNat 32 0)) W)
    case first =>
      go_region_with fail
      all_goals
        go_wp2_with fail
        go_meet
        case rel =>
          first
            | exact ⟨_, _, rfl, rfl, (HQ.out wa.drew HIB.out (HLO.out.trans (Below.refl _ _).drew) hsz1).1⟩
            | exact ⟨_, _, rfl, rfl, (HQ.out wa.drew HIB.out (HLO.out.trans (Below.refl _ _).drew) hsz1).2⟩
    case rest =>
      clear hmk HQ HIB HLO HM hsz1
      obtain ⟨ga, gb, rfl, rfl, h1⟩ := hcut
      obtain ⟨F, hF⟩ : ∃ F, flowI i l = F := ⟨_, rfl⟩
      have hFn : F.n = n1 := by rw [← hF]; exact HN1.out
      have HF := hideE hF
      have HFN := hideE hFn
      have hup := up_zero F
      rw [hFn] at hup
      have HUP := hideE hup
      clear hF hFn hup
      go_upto_region 5 with fail
      go_loopg [9] (32 * n1 + 1) (fun q j W => ∃ (r : Nat) (A B : List (BitVec 32)), r + q = 32 * n1 + 1 ∧ j = .int .i64 (r : Int) ∧ Up F A ∧ r ≤ popL A ∧ Q2 w i (.slice p0 i.words.length q0) (.slice (some ⟨ga, 0, none⟩) n1 n1) (.slice (some ⟨gb, 0, none⟩) n1 n1) n1 A B W)
      case atStart => exact ⟨0, _, _, by omega, rfl, HUP.out, Nat.zero_le _, h1⟩
      case round =>
        clear h1 HUP
        obtain ⟨r, A, B, hrq, rfl, hup, hpop, h2⟩ := hrel
        have htop := round_end hup hpop
        rw [HFN.out] at htop
        obtain ⟨q, rfl⟩ : ∃ q, gk = q + 1 := ⟨gk - 1, by omega⟩
        have HUP := hideE hup
        have HPOP := hideE hpop
        have hlA := h2.lenA
        have hw32 : IntKind.i64.wrap (32 * (n1 : Int)) = 32 * (n1 : Int) := wrE (by omega) (by omega)
        have hwr : IntKind.i64.wrap ((r : Int) + 1) = (r : Int) + 1 := wrE (by omega) (by omega)
        have hle : (r : Int) ≤ 32 * (n1 : Int) := by omega
        refine gen_world (Q2 w i (.slice p0 i.words.length q0) (.slice (some ⟨ga, 0, none⟩) n1 n1) (.slice (some ⟨gb, 0, none⟩) n1 n1) n1 A B) h2 ?_
        clear h2 hup hpop
        intro W0 h2
        have HLA := hideE hlA
        have hlN : (natL A).length = n1 := by rw [natL_len]; exact hlA
        have hsa := slwU_own h2.ra hlN
        have HSA := hideE (hsa.alloc (.cells #[] 22))
        have HSP : Hid (SlP (.slice (some ⟨ga, 0, none⟩) n1 n1)) := hideE (.inr ⟨_, _, _, rfl⟩)
        have HOE := hideE (owns_empty W0 W0.heap.size (Nat.le_refl _))
        have HBD : Hid (0 + (natL A).length ≤ 1000000) := hideE (by rw [hlN]; omega)
        have HLN := hideE hlN
        have H2 := hideE h2
        clear h2 hsa hlN hlA
        go_upto_region 8 with (refine wpList_append_words rfl _ _ rfl W0.heap.size _ 0 [] rfl HOE.out _ (natL A) rfl HSA.out HSP.out HBD.out (by simp) ?_; intro vw w3 hown hgr)
        have hc := ownU_words (l := natL A) hown n1 (by rw [HLN.out]; omega) (by simp)
        have hb := ((Below.refl W0.heap.size W0).alloc (Nat.le_refl _) (.cells #[] 22)).grown hgr (by simp) (ownU_lo HOE.out)
        have h3 := Q3.new (C := A) H2.out hb hc
        obtain ⟨pw, cw, rfl⟩ := own_slice' hc
        refine gen_world (Q3 w i (.slice p0 i.words.length q0) (.slice (some ⟨ga, 0, none⟩) n1 n1) (.slice (some ⟨gb, 0, none⟩) n1 n1) (.slice pw n1 cw) n1 A B A) h3 ?_
        clear hc hb h3 hown hgr H2 HSA HSP HOE HBD
        intro W1 h3
        have hlB := h3.q2.lenB
        go_upto_region 9 with fail
        go_loopg [11] n1 (fun q2 j W => ∃ (k : Nat) (A' B' : List (BitVec 32)), k + q2 = n1 ∧ j = .int .i64 (k : Int) ∧ HalfA F A k A' ∧ HalfB F A k B' ∧ Q3 w i (.slice p0 i.words.length q0) (.slice (some ⟨ga, 0, none⟩) n1 n1) (.slice (some ⟨gb, 0, none⟩) n1 n1) (.slice pw n1 cw) n1 A' B' A W)
        case atStart => exact ⟨0, A, B, by omega, rfl, HalfA.start (by rw [HLA.out, HFN.out]), HalfB.start (by rw [hlB, HFN.out]), h3⟩
        case round =>
          clear h3 hlB
          obtain ⟨k, A', B', hkq, rfl, hA', hB', h4⟩ := hrel
          have HA' := hideE hA'
          have HB' := hideE hB'
          clear hA' hB'
          cases gk with
          | zero =>
            obtain rfl : k = n1 := by omega
            have hkk : ¬ ((k : Int) < (k : Int)) := by omega
            have hA : A' = roundF F A := by
              have h := HA'.out
              rw [← HFN.out] at h
              exact h.end_ (by rw [HLA.out, HFN.out])
            have hBb : B' = behL F A := by
              have h := HB'.out
              rw [← HFN.out] at h
              exact h.end_
            rw [hA, hBb] at h4
            have hlR : (natL (roundF F A)).length = k := by rw [natL_len, round_len, HFN.out]
            have HSM := hideE (rsame9_any (natL A) (natL (roundF F A)) (.slice pw k cw) (.slice (some ⟨ga, 0, none⟩) k k) (by rw [HLN.out]; omega) (by rw [HLN.out, hlR]) wr (slwU_own h4.rc HLN.out) (slwU_own h4.q2.ra hlR))
            have HLR := hideE hlR
            have H4 := hideE h4
            clear hA hBb hlR h4 HA' HB'
            by_cases hE : A = roundF F A
            · have hd : decide (natL A = natL (roundF F A)) = true := decide_eq_true (by rw [← hE])
              rw [hd] at HSM
              have HL := hideE (HUP.out.least hE.symm)
              have hbl : behL F (roundF F A) = behL F A := by rw [← hE]
              have HBL := hideE hbl
              have HE := hideE hE
              clear hd hbl hE
              go_wp2_with (go_at_call 24; refine HSM.out.mono ?_; rintro e ws ⟨rfl, hbs⟩)
              go_ret3
              have h9 := H4.out.ext hbs
              have hlA2 : (natL (roundF F A)).length = k := HLR.out
              refine ⟨natL A, natL (behL F A), 0, .inl ⟨HRI.out, rfl, A, by rw [HF.out]; exact HL.out, rfl, by rw [HF.out]⟩, _, _, rfl, ?_, ?_, h9.q2.low⟩
              · have h := slwU_own h9.q2.ra hlA2
                rw [← HE.out] at h
                exact h
              · exact slwU_own h9.q2.rb (by rw [natL_len]; unfold behL; rw [List.length_map, List.length_range, HFN.out])
            · have hd : decide (natL A = natL (roundF F A)) = false := decide_eq_false (fun e => hE (natL_inj e))
              rw [hd] at HSM
              have HN := hideE (round_on HUP.out HPOP.out hE)
              clear hd hE
              go_wp2_with (go_at_call 24; refine HSM.out.mono ?_; rintro e ws ⟨rfl, hbs⟩)
              go_roundg q
              case measure => omega
              case rel => exact ⟨r + 1, _, _, by omega, by simp, HN.out.1, HN.out.2, (H4.out.ext hbs).q2⟩
          | succ q2 =>
            have hkk : (k : Int) < (n1 : Int) := by omega
            have hk0 : (0 : Int) ≤ (k : Int) := by omega
            have hwk : IntKind.i64.wrap ((k : Int) + 1) = (k : Int) + 1 := wrE (by omega) (by omega)
            obtain ⟨b, hb⟩ : ∃ b, l[k]? = some b := ⟨l[k]'(by rw [HN1.out]; omega), List.getElem?_eq_getElem (by rw [HN1.out]; omega)⟩
            have hby := whole_code HI.out HW.out hb
            have hba := blkAt_of hb
            obtain ⟨x, y⟩ := b
            simp only at hby
            obtain ⟨g, rfl, e0, e1⟩ := (HSL.out.below h4.q2.low).at hb
            simp only at e0 e1
            have HBA := hideE hba
            have hbx := h4.q2.ib
            have hlw := h4.q2.low
            have HCD := hideE (fun W (hW : Below w.heap.size w W) => rcode_any i (.slice p0 i.words.length q0) x y hby.2 HI.out W (HS.out.below hW))
            simp only [imgV] at HCD
            have H4 := hideE h4
            clear hb hba h4
            have hld := hlw.drew
            have ib' : wr.heap[w.heap.size]? = some (.cells #[.int .u32 (i.base.toNat : Int), .int .u32 (i.entry.toNat : Int), .slice p0 i.words.length q0, .int .i64 (i.seg : Int)] 25 (0, 0)) := hbx
            obtain ⟨⟨m0, m1, m2, m3⟩, _⟩ := four ib'
            have hga := (H4.out.q2.ra.lt ga rfl).2
            have hgb := (H4.out.q2.rb.lt gb rfl).2
            have HGA := hideE hga
            have HGB := hideE hgb
            clear hga hgb ib' hbx
            go_upto_region 11 with fail
            go_cut [12] (fun s12 W => ∃ gc cc, s12 = .slice (some ⟨gc, 0, none⟩) y cc ∧ (gc ≠ ga ∧ gc ≠ gb) ∧ Q3 w i (.slice p0 i.words.length q0) (.slice (some ⟨ga, 0, none⟩) n1 n1) (.slice (some ⟨gb, 0, none⟩) n1 n1) (.slice pw n1 cw) n1 A' B' A W ∧ SlN W (.slice (some ⟨gc, 0, none⟩) y cc) (codeI i (x, y)))
            case first =>
              go_region_with (go_at_call 13; refine (HCD.out _ hld).mono ?_; rintro e w5 ⟨uc, rfl, hrc, hbc⟩; obtain ⟨pc, cc, rfl⟩ := own_slice' hrc)
              all_goals
                go_wp2_with fail
                go_meet
                case rel =>
                  obtain ⟨gc, rfl⟩ := own_some hrc (by omega)
                  have hgc : wr.heap.size ≤ gc := (hrc.lt gc rfl).1
                  have h1 := HGA.out
                  have h2 := HGB.out
                  exact ⟨gc, cc, rfl, ⟨by omega, by omega⟩, (H4.out.ext (Below.refl _ wr).drew).ext hbc, SlN.of_owns (l := codeI i (x, y)) (by rw [code_len]; exact hrc)⟩
            case rest =>
              clear hld hlw HCD H4 HGA HGB m0 m1 m2 m3 e0 e1
              obtain ⟨gc, cc, rfl, hne, h5, hsn⟩ := hcut
              have HNE := hideE hne
              clear hne
              have hbx := h5.q2.ib
              have hlw := h5.q2.low
              have hnx := rnext_any i (.slice p0 i.words.length q0) (.slice (some ⟨g, 0, none⟩) n1 qb) l (k : Int) (by omega) (by omega) HFI.out HI.out wc (HS.out.below hlw) (HSL.out.below hlw)
              have hnl0 := leU_of_nxt i l (k : Int) HFI.out
              have hnin : ∀ j ∈ (nextV i l (k : Int)).1, j < n1 := fun j hj => by rw [← HN1.out]; exact next_in j hj
              have hfn : F.next k = (nextV i l (k : Int)).1 := by rw [← HF.out]; rfl
              have hfl : F.loose k = looseX (insA i (lastA (x, y))) (nextV i l (k : Int)).2 := by rw [← HF.out, ← HBA.out]; rfl
              have hfc : F.code k = codeI i (x, y) := by rw [← HF.out, ← HBA.out]; rfl
              obtain ⟨N, hN⟩ : ∃ N, (nextV i l (k : Int)).1 = N := ⟨_, rfl⟩
              obtain ⟨aw, haw⟩ : ∃ aw, (nextV i l (k : Int)).2 = aw := ⟨_, rfl⟩
              rw [hN] at hnx hnin hfn hnl0
              rw [haw] at hnx hfl
              have HNX := hideE hnx
              have HNIN := hideE hnin
              have HFN2 := hideE hfn
              have HFL := hideE hfl
              have HFC := hideE hfc
              have H5 := hideE h5
              have HSN := hideE hsn
              simp only [imgV] at HNX
              clear h5 hsn hnx hnin hfn hfl hfc hN haw
              go_upto_region 14 with (first
                | (refine wpList_load_row rfl 25 _ rfl w.heap.size rfl _ _ _ _ hbx Tryz.underlying25 rfl (by kernel_rfl) ?_)
                | (go_at_call 11; refine HNX.out.mono ?_; rintro e w6 ⟨un, rfl, hrn, hbn⟩; obtain ⟨pn, cn, rfl⟩ := own_slice' hrn))
              obtain ⟨nn, hnn⟩ : ∃ nn, N.length = nn := ⟨_, rfl⟩
              have hsi := sli_of_owns hrn
              rw [hnn] at hsi hnl0
              rw [hnn]
              refine gen_world (fun W => Q3 w i (.slice p0 i.words.length q0) (.slice (some ⟨ga, 0, none⟩) n1 n1) (.slice (some ⟨gb, 0, none⟩) n1 n1) (.slice pw n1 cw) n1 A' B' A W ∧ SlN W (.slice (some ⟨gc, 0, none⟩) y cc) (codeI i (x, y)) ∧ SlI8 W (.slice pn nn cn) N) ⟨H5.out.ext hbn, HSN.out.below hbn, hsi⟩ ?_
              have HNN := hideE hnn
              clear hbx hlw HNX H5 HSN hrn hbn hsi hnn
              rintro W3 ⟨h6, hsn, hsi⟩
              have H6 := hideE h6
              have HSN := hideE hsn
              have HSI := hideE hsi
              clear h6 hsn hsi
              go_upto_region 15 with fail
              go_loopg [15, 16] nn (fun q3 s15 j W => ∃ t : Nat, t + q3 = nn ∧ s15 = .int .u32 ((orK A N t).toNat : Int) ∧ j = .int .i64 (t : Int) ∧ W = W3)
              case atStart => exact ⟨0, by omega, rfl, rfl, rfl⟩
              case round =>
                obtain ⟨t, htq, rfl, rfl, hW⟩ := hrel
                have hwc := hW.symm
                subst hwc
                clear hW
                cases gk with
                | succ q3 =>
                  have htn : (t : Int) < (nn : Int) := by omega
                  have ht0 : (0 : Int) ≤ (t : Int) := by omega
                  have hwt : IntKind.i64.wrap ((t : Int) + 1) = (t : Int) + 1 := wrE (by omega) (by omega)
                  obtain ⟨u, hu⟩ : ∃ u, N[t]? = some u := ⟨N[t]'(by rw [HNN.out]; omega), List.getElem?_eq_getElem (by rw [HNN.out]; omega)⟩
                  have hul := HNIN.out u (List.mem_of_getElem? hu)
                  obtain ⟨gn, rfl, a3⟩ := HSI.out.at hu
                  have hrc := H6.out.rc
                  obtain ⟨gw, rfl⟩ := own_some hrc (by omega)
                  have hlA := HLA.out
                  have a4 : W3.cell? ⟨gw, u, none⟩ = some (.int .u32 ((A.getD u (BitVec.ofNat 32 0)).toNat : Int)) := by
                    rw [hrc.cellAt u (by omega)]; exact natV_get A (by omega)
                  have hun : (u : Int) < (n1 : Int) := by omega
                  have hu0 : (0 : Int) ≤ (u : Int) := by omega
                  have HOR := hideE (orK_succ A N t hu)
                  obtain ⟨M0, hM0⟩ : ∃ M0, orK A N t = M0 := ⟨_, rfl⟩
                  obtain ⟨Z, hZ⟩ : ∃ Z, A.getD u (BitVec.ofNat 32 0) = Z := ⟨_, rfl⟩
                  obtain ⟨Y, hY⟩ : ∃ Y, M0 ||| Z = Y := ⟨_, rfl⟩
                  have hor : bits .or .u32 (M0.toNat : Int) (Z.toNat : Int) = (Y.toNat : Int) := by rw [← hY]; exact Wd.or_ M0 Z
                  rw [hM0, hZ, hY] at HOR
                  rw [hZ] at a4
                  rw [hM0]
                  clear hu hul hrc hlA hM0 hZ hY
                  go_wp2_with fail
                  go_roundg q3
                  case measure => omega
                  case rel => exact ⟨t + 1, by omega, by rw [HOR.out], by simp, rfl⟩
                | zero =>
                  obtain rfl : t = nn := by omega
                  have htn : ¬ ((t : Int) < (t : Int)) := by omega
                  have hok : orK A N t = orL A N := by rw [← HNN.out]; exact orK_end A N
                  obtain ⟨X, hX⟩ : ∃ X, insA i (lastA (x, y)) = X := ⟨_, rfl⟩
                  obtain ⟨op, rd, rs1, rs2, imm⟩ := X
                  obtain ⟨y1, rfl⟩ : ∃ y1, y = y1 + 1 := ⟨y - 1, by omega⟩
                  have hcl := code_last i (x, y1 + 1) (by show 1 ≤ y1 + 1; omega)
                  rw [hX] at hcl
                  have hf5 := SlN.five (i := y1) HSN.out hcl
                  simp only [Nat.zero_add] at hf5
                  obtain ⟨c0, c1, c2, c3, c4⟩ := hf5
                  have hwy : IntKind.i64.wrap (((y1 + 1 : Nat) : Int) - 1) = (y1 : Int) := by rw [wrE (by omega) (by omega)]; omega
                  have hy0 : (0 : Int) ≤ (y1 : Int) := by omega
                  have hyl : (y1 : Int) < ((y1 + 1 : Nat) : Int) := by omega
                  obtain ⟨R, hR⟩ : ∃ R, looseX ⟨op, rd, rs1, rs2, imm⟩ aw = R := ⟨_, rfl⟩
                  have HAL := hideE (hR ▸ rall_any op rd rs1 rs2 imm aw W3)
                  have HFR : Hid (F.loose k = R) := by show _ = _; rw [HFL.out, hX, hR]
                  have HOK := hideE hok
                  clear hcl hX hR hok
                  go_upto_if 78 with (go_at_call 22; refine HAL.out.mono ?_; rintro e w7 ⟨rfl, hb7⟩)
                  refine gen_world (fun W => Q3 w i (.slice p0 i.words.length q0) (.slice (some ⟨ga, 0, none⟩) n1 n1) (.slice (some ⟨gb, 0, none⟩) n1 n1) (.slice pw n1 cw) n1 A' B' A W ∧ SlN W (.slice (some ⟨gc, 0, none⟩) (y1 + 1) cc) (codeI i (x, y1 + 1))) ⟨H6.out.ext hb7, HSN.out.below hb7⟩ ?_
                  clear HAL hb7 H6 HSN HSI c0 c1 c2 c3 c4
                  rintro W4 ⟨h7, hsn⟩
                  have H7 := hideE h7
                  have HSN := hideE hsn
                  clear h7 hsn
                  go_cut [15] (fun s15 W => s15 = .int .u32 ((behF F A k).toNat : Int) ∧ Q3 w i (.slice p0 i.words.length q0) (.slice (some ⟨ga, 0, none⟩) n1 n1) (.slice (some ⟨gb, 0, none⟩) n1 n1) (.slice pw n1 cw) n1 A' B' A W ∧ SlN W (.slice (some ⟨gc, 0, none⟩) (y1 + 1) cc) (codeI i (x, y1 + 1)))
                  case first =>
                    cases R with
                    | true =>
                      go_wp2_with fail
                      go_meet
                      case rel => exact ⟨by rw [beh_loose HFR.out]; rfl, H7.out, HSN.out⟩
                    | false =>
                      go_wp2_with fail
                      go_meet
                      case rel => exact ⟨by rw [beh_next HFR.out, HFN2.out, HOK.out], H7.out, HSN.out⟩
                  case rest =>
                    clear H7 HSN htn
                    obtain ⟨rfl, h8, hsn⟩ := hcut
                    obtain ⟨Z, hZ⟩ : ∃ Z, behF F A k = Z := ⟨_, rfl⟩
                    rw [hZ]
                    have hlB := h8.q2.lenB
                    have d1 : wc.cell? ⟨gb, k, none⟩ = some (.int .u32 ((B'.getD k (BitVec.ofNat 32 0)).toNat : Int)) := by
                      rw [h8.q2.rb.cellAt k (by omega)]; exact natV_get B' (by omega)
                    have d2 : wc.frozen? ⟨gb, k, none⟩ = false := h8.q2.rb.frozenAt _
                    have H9 := hideE (h8.setB k Z)
                    have HSN := hideE (hsn.put (gb := gb) (k := k) (z := .int .u32 (Z.toNat : Int)) HNE.out.2)
                    have HZ := hideE hZ
                    clear hZ h8 hsn hlB
                    go_upto_region 21 with fail
                    refine gen_world (fun W => Q3 w i (.slice p0 i.words.length q0) (.slice (some ⟨ga, 0, none⟩) n1 n1) (.slice (some ⟨gb, 0, none⟩) n1 n1) (.slice pw n1 cw) n1 A' (B'.set k Z) A W ∧ SlN W (.slice (some ⟨gc, 0, none⟩) (y1 + 1) cc) (codeI i (x, y1 + 1))) ⟨H9.out, HSN.out⟩ ?_
                    clear d1 d2 H9 HSN
                    rintro W5 ⟨h9, hsn⟩
                    obtain ⟨Y, hY⟩ : ∃ Y, backB (codeI i (x, y1 + 1)) Z = Y := ⟨_, rfl⟩
                    have hbk := rback_any (codeI i (x, y1 + 1)) (.slice (some ⟨gc, 0, none⟩) (y1 + 1) cc) Z (by rw [code_len]; exact hby.2) W5 hsn
                    rw [hY] at hbk
                    have HBC := hideE hbk
                    have HCA : Hid (∀ W, Below W5.heap.size W5 W → W.cell? ⟨ga, k, none⟩ = some (.int .u32 ((A'.getD k (BitVec.ofNat 32 0)).toNat : Int)) ∧ W.frozen? ⟨ga, k, none⟩ = false) := hideE (fun W hW => by
                      have h := (h9.ext hW).q2
                      have hlA' := h.lenA
                      exact ⟨by rw [h.ra.cellAt k (by omega)]; exact natV_get A' (by omega), h.ra.frozenAt _⟩)
                    have HAH : Hid (ahdF F A k = Y) := by
                      show ahdF F A k = Y
                      unfold ahdF
                      rw [HFC.out, HZ.out, hY]
                    have H9 := hideE h9
                    clear h9 hsn hY hbk
                    go_wp2_with (go_at_call 23; refine HBC.out.mono ?_; rintro e w8 ⟨rfl, hb8⟩; obtain ⟨d1, d2⟩ := HCA.out w8 hb8)
                    go_roundg q2
                    case measure => omega
                    case rel =>
                      have sA := HA'.out.step (k := k) (by rw [HFN.out]; omega)
                      have sB := HB'.out.step (k := k) (by rw [HFN.out]; omega)
                      rw [HAH.out] at sA
                      rw [HZ.out] at sB
                      exact ⟨k + 1, _, _, by omega, by simp, sA, sB, (H9.out.ext hb8).setA k Y⟩
end Go.Proofs.YtcffpmicencfpaaGreat
