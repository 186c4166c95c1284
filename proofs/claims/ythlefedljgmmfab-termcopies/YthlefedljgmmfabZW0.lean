/-
  Contract of fold, walked.
  Contracts of the code's Eval and Vars; and all that the laws ask of package term.
-/

import Derived.Test.YthlefedljgmmfabZW9
namespace Go.Proofs.Ythlefedljgmmfab
open Go.RowKit Go.Lib Go.Shelf Go.Maps Tm
set_option linter.unusedSimpArgs false
set_option linter.unusedVariables false

theorem wrapT64 {n : Int} (h : -9223372036854775808 ≤ n ∧ n ≤ 9223372036854775807) : wrap64 n = n := by unfold wrap64; omega
theorem kn_look0 {F : Nat → BitVec 32} {n b : Nat} {Ks : List Nat} {D : DataW Unit} {W : World} (hK : Kn F n Ks D) (h : knowsAt W b Ks.length D) :
    ∃ c : Int, (Instr.lookup 100 (.map (some b)) (.int .i64 0) true).run Try.prog W = .ok (.tuple #[.int .u32 c, .bool (decide (0 ∈ Ks))]) W ∧ (0 ∈ Ks → c = ((F 0).toNat : Int)) := kn_look hK h (k := 0) (by omega)
theorem stk_end (s : Stk) : s = [] ∨ ∃ s0 k m, s = s0 ++ [(k, m)] := by
  rcases List.eq_nil_or_concat s with h | ⟨s0, ⟨k, m⟩, h⟩
  · exact .inl h
  · exact .inr ⟨s0, k, m, by rw [h, List.concat_eq_append]⟩
set_option maxHeartbeats 16000000 in
set_option maxRecDepth 100000 in
theorem tfold_any {g : Nat} {L : List Trm} {fp : Nat → Prop} (F : Nat → BitVec 32) (fl fj : Nat) (cl cj : Array Value) (el : ∀ args w, (callFunc fl args).run Try.prog w = .ok (.enter fl args) w) (ej : ∀ args w, (callFunc fj args).run Try.prog w = .ok (.enter fj args) w)
    (n : Nat) (w : World) (hok : OkT L) (hl : L.length ≤ 1000) (hn : n < L.length) (h : CDag w g L fp)
    (hleaf : ∀ (W : World) (k : Nat) (t : Trm), Below w.heap.size w W → L[k]? = some t → t.kind ≠ 2 → Calls Try.prog fl (#[.agg (termC t)] ++ cl) W fun e W' => e = .returned (.int .u32 ((F k).toNat : Int)) ∧ Below W.heap.size W W')
    (hjoin : ∀ (W : World) (k : Nat) (op : Int) (a b : Nat), L[k]? = some (opT op (a : Int) (b : Int)) → a < k → b < k → Calls Try.prog fj (#[.int .i64 op, .int .u32 ((F a).toNat : Int), .int .u32 ((F b).toNat : Int)] ++ cj) W fun e W' => e = .returned (.int .u32 ((F k).toNat : Int)) ∧ Below W.heap.size W W') :
    Calls Try.prog 47 #[ptrV g, .int .i64 (n : Int), .func (.func fl) #[] cl, .func (.func fj) #[] cj] w fun e w' => e = .returned (.int .u32 ((F n).toNat : Int)) ∧ Below w.heap.size w w' := by
  obtain ⟨i0, hii, hz0, hz1, hz2⟩ := info_parts infoI10
  have hmm := @run_makeMap Try.prog
  have HH := hideE h
  have HOk := hideE hok
  have HLf := hideE hleaf
  have HJn := hideE hjoin
  have HL := hideE hl
  have HNl := hideE hn
  clear h hok hleaf hjoin hl hn
  simp only [ptrV]
  go_enter Try.func47, Try.ntmps47
  go_upto_region 3 with fail
  refine gen_world (Fd w F L n w.heap.size [] (.map []) [(n, false)] (.slice (some ⟨w.heap.size + 1, 0, none⟩) 1 1)) ?_ ?_
  · exact Fd.start w F L n
  intro w1 h1
  go_loopg [10] (wS [(n, false)]) (fun q v W => ∃ Ks D s, q = wS s ∧ Fd w F L n w.heap.size Ks D s v W)
  case atStart => exact ⟨_, _, _, rfl, h1⟩
  case round =>
    clear h1
    obtain ⟨Ks, D, s, rfl, hf⟩ := hrel
    obtain ⟨pv, cv, rfl⟩ := own_slice' hf.row
    rcases stk_end s with rfl | ⟨s0, k, m, rfl⟩
    · have hm : n ∈ Ks := by
        rcases hf.stk.root with e | ⟨m, e⟩
        · exact e
        · simp at e
      have hl := HL.out
      have hnl := HNl.out
      have hlast := kn_last hf.kn hf.own (by omega) hm
      have HF := hideE hf
      clear hf hm hl hnl
      go_wp2_with fail
      go_ret
      exact ⟨rfl, HF.out.low⟩
    · obtain ⟨d, hd⟩ : ∃ d, s0.length = d := ⟨_, rfl⟩
      have hlen : (s0 ++ [(k, m)]).length = d + 1 := by rw [List.length_append, hd]; rfl
      rw [hlen] at hf ⊢
      have hst := hf.stk
      obtain ⟨hkn, hdn⟩ := hst.top
      have hl := HL.out
      have hnl := HNl.out
      have hn1 : n ≤ 1000 := by omega
      rw [hd] at hdn
      have hrow := hf.row
      rw [hlen] at hrow
      obtain ⟨gv, rfl⟩ := own_some hrow (by omega)
      have hdc1 : d + 1 ≤ cv := by
        rcases hrow.2 with ⟨e, _⟩ | ⟨g', cap, cur, e, _, _, hc, _⟩
        · cases e
        · injection e with _ _ e; omega
      have hdc : d ≤ cv := by omega
      have hcv0 : ¬ cv = 0 := by omega
      have cv0 : wr.cell? ⟨gv, d, none⟩ = some (.int .i64 (k : Int)) := by
        have := (hrow.cellAt d (by omega)).trans (show (stkC (s0 ++ [(k, m)]))[d]? = some (.int .i64 (k : Int)) by rw [stkC_app, List.getElem?_append_right (by rw [stkC_len]; omega), stkC_len, hd, Nat.sub_self]; rfl)
        exact this
      obtain ⟨t, ht⟩ : ∃ t, L[k]? = some t := ⟨L[k]'(by omega), List.getElem?_eq_getElem (by omega)⟩
      have hfine := HOk.out.fine k _ ht
      obtain ⟨gs, c, c1, ⟨e0, e1, e2, e3, e4⟩, hfs, hsg⟩ := (HH.out.ext hf.low).term ht
      obtain ⟨N, hN⟩ : ∃ N, L.length = N := ⟨_, rfl⟩
      rw [hN] at c1
      have hpos : (0 : Int) < (d : Int) + 1 := by omega
      have hd0 : (0 : Int) ≤ (d : Int) := by omega
      have hd1 : (d : Int) < (d : Int) + 1 := by omega
      have hk0 : (0 : Int) ≤ (k : Int) := by omega
      have hkN : (k : Int) < (N : Int) := by omega
      have hw64 : wrap64 (d : Int) = (d : Int) := wrapT64 (by omega)
      have HF := hideE hf
      have HT := hideE ht
      have HFine := hideE hfine
      have HD := hideE hd
      have HSt := hideE hst
      have HKn := hideE hkn
      have HDn := hideE hdn
      have HN1 := hideE hn1
      have HLen := hideE hlen
      obtain ⟨tk, tv, tp, ta, tb⟩ := t
      clear hf ht hfine hd hst hkn hdn hn1 hlen hrow hl hnl hfs hsg hN
      go_upto_region 6 with fail
      refine gen_world (fun W => Fd w F L n w.heap.size Ks D (s0 ++ [(k, m)]) (.slice (some ⟨gv, 0, none⟩) (d + 1) cv) W ∧ W.heap[wr.heap.size]? = some (.cells #[.int .i64 tk, .int .u32 (tv.toNat : Int), .int .i64 tp, .int .i64 ta, .int .i64 tb] 36 (0, 0))) ⟨HF.out.below ((Below.refl _ wr).alloc (Nat.le_refl _) _), heap_alloc_new wr _⟩ ?_
      clear HF c1 e0 e1 e2 e3 e4 cv0
      generalize wr.heap.size = B
      rintro w3 ⟨h3, htb⟩
      obtain ⟨t0, t1, t2, t3, t4⟩ := fiveT htb
      have hleafT : (∃ v, (⟨tk, tv, tp, ta, tb⟩ : Trm) = constT v) ∨ (∃ r : Nat, 0 < r ∧ r < 32 ∧ (⟨tk, tv, tp, ta, tb⟩ : Trm) = regT (r : Int)) → (tk = 0 ∨ tk = 1) ∧ tp = 0 ∧ ta = 0 ∧ tb = 0 := by
        rintro (⟨v, e⟩ | ⟨r, q0, qr, e⟩)
        · injection e with q1 q2 q3 q4 q5; exact ⟨.inl q1, q3, q4, q5⟩
        · rw [reg_nat q0 qr] at e; injection e with q1 q2 q3 q4 q5; exact ⟨.inr q1, q3, q4, q5⟩
      rcases (show ((tk = 0 ∨ tk = 1) ∧ tp = 0 ∧ ta = 0 ∧ tb = 0) ∨ (∃ (op : Int) (a b : Nat), 27 ≤ op ∧ op ≤ 44 ∧ a < k ∧ b < k ∧ (⟨tk, tv, tp, ta, tb⟩ : Trm) = opT op (a : Int) (b : Int)) from HFine.out.elim (fun c => .inl (hleafT (.inl c))) (fun c => c.elim (fun c => .inl (hleafT (.inr c))) .inr)) with ⟨rfl | rfl, rfl, rfl, rfl⟩ | ⟨op, a, b, ho1, ho2, ha, hb, e⟩
      · clear hleafT HFine
        obtain ⟨c0, hr0, _⟩ := kn_look0 h3.kn h3.own
        obtain ⟨b0, hb0⟩ : ∃ b0, decide (0 ∈ Ks) = b0 := ⟨_, rfl⟩
        rw [hb0] at hr0
        have HLf2 := hideE (HLf.out w3 k ⟨0, tv, 0, 0, 0⟩ h3.low HT.out (show (0 : Int) ≠ 2 by decide))
        have HTB := hideE htb
        have H3 := hideE h3
        clear hb0 h3 htb
        go_upto_region 10 with fail
        go_wp2_with (go_at_fn fl; refine HLf2.out.mono ?_; rintro e W2 ⟨rfl, hb2⟩; obtain ⟨W9, hrun, ho, hgr⟩ := kn_store (H3.out.below hb2).kn (H3.out.below hb2).own HKn.out HN1.out; have H9 := hideE (Fd.pop (H3.out.below hb2) HD.out hgr ho); clear hb2 ho hgr)
        go_roundg (wS s0)
        case measure => exact HSt.out.pop.2
        case rel => exact ⟨_, _, s0, rfl, H9.out⟩
      · clear hleafT HFine
        obtain ⟨c0, hr0, _⟩ := kn_look0 h3.kn h3.own
        obtain ⟨b0, hb0⟩ : ∃ b0, decide (0 ∈ Ks) = b0 := ⟨_, rfl⟩
        rw [hb0] at hr0
        have HLf2 := hideE (HLf.out w3 k ⟨1, tv, 0, 0, 0⟩ h3.low HT.out (show (1 : Int) ≠ 2 by decide))
        have HTB := hideE htb
        have H3 := hideE h3
        clear hb0 h3 htb
        go_upto_region 10 with fail
        go_wp2_with (go_at_fn fl; refine HLf2.out.mono ?_; rintro e W2 ⟨rfl, hb2⟩; obtain ⟨W9, hrun, ho, hgr⟩ := kn_store (H3.out.below hb2).kn (H3.out.below hb2).own HKn.out HN1.out; have H9 := hideE (Fd.pop (H3.out.below hb2) HD.out hgr ho); clear hb2 ho hgr)
        go_roundg (wS s0)
        case measure => exact HSt.out.pop.2
        case rel => exact ⟨_, _, s0, rfl, H9.out⟩
      · clear hleafT HFine
        injection e with q1 q2 q3 q4 q5
        subst q1 q2 q3 q4 q5
        have HA := hideE ha
        have HB := hideE hb
        have hka := HKn.out
        have hkb := HN1.out
        obtain ⟨ca, hra, hva⟩ := kn_look h3.kn h3.own (k := a) (by omega)
        obtain ⟨cb, hrb, hvb⟩ := kn_look h3.kn h3.own (k := b) (by omega)
        clear ha hb hka hkb ho1 ho2
        by_cases hma : a ∈ Ks
        · rw [decide_eq_true hma, hva hma] at hra
          by_cases hmb : b ∈ Ks
          · rw [decide_eq_true hmb, hvb hmb] at hrb
            have HJ2 := hideE (HJn.out w3 k tp a b HT.out HA.out HB.out)
            have HTB := hideE htb
            have H3 := hideE h3
            clear hva hvb hma hmb h3 htb
            obtain ⟨fa, hfa⟩ : ∃ x : Int, ((F a).toNat : Int) = x := ⟨_, rfl⟩
            obtain ⟨fb, hfb⟩ : ∃ x : Int, ((F b).toNat : Int) = x := ⟨_, rfl⟩
            rw [hfa] at hra HJ2
            rw [hfb] at hrb HJ2
            clear hfa hfb
            go_upto_region 12 with fail
            go_wp2_with (go_at_fn fj; refine HJ2.out.mono ?_; rintro e W2 ⟨rfl, hb2⟩; obtain ⟨W9, hrun, ho, hgr⟩ := kn_store (H3.out.below hb2).kn (H3.out.below hb2).own HKn.out HN1.out; have H9 := hideE (Fd.pop (H3.out.below hb2) HD.out hgr ho); clear hb2 ho hgr)
            go_roundg (wS s0)
            case measure => exact HSt.out.pop.2
            case rel => exact ⟨_, _, s0, rfl, H9.out⟩
          · rw [decide_eq_false hmb] at hrb
            have hrv := h3.row
            rw [HLen.out] at hrv
            have hdn := HDn.out
            have hn1 := HN1.out
            have hlow := h3.low.size
            have HNot : Hid (¬ (a ∈ Ks ∧ b ∈ Ks)) := fun c => hmb c.2
            have H3 := hideE h3
            have HRv := hideE hrv
            have h63 : d + 1 + 2 ≤ maxLen := by unfold maxLen; omega
            have hby : (d + 1 + 2) * 8 ≤ 140737488355328 := by omega
            clear h3 htb hrv hva hvb hma hmb
            go_upto_region 8 with fail
            go_wp2_with (at_builtin; refine wpList_append_own _ rfl _ _ 101 rfl w.heap.size 3 i0 (.int .i64 0) 1 8 Try.underlying101 hii hz0 hz1 hz2 rfl (by decide) _ _ _ rfl (HRv.out.alloc _) ⟨_, 0, none⟩ 2 2 [.int .i64 (a : Int), .int .i64 (b : Int)] rfl rfl (World.news_of_block (cs := #[.int .i64 (a : Int), .int .i64 (b : Int)]) (t := 3) (fr := (0, 0)) (heap_alloc_new w3 _)) (by simp [Value.oneCell']) h63 hby (by simp; omega) ?_; intro v2 w5 hown2 hgrow _)
            have HSx := (HSt.out.expand HT.out HA.out HB.out HNot.out).2
            go_roundg (wS (s0 ++ [(k, true)] ++ [(a, false), (b, false)]))
            case measure => exact HSx
            case rel => exact ⟨_, _, _, rfl, H3.out.push HT.out HA.out HB.out HNot.out (by rw [HD.out]; exact hown2) hgrow⟩
        · rw [decide_eq_false hma] at hra
          obtain ⟨bb, hbb⟩ : ∃ bb, decide (b ∈ Ks) = bb := ⟨_, rfl⟩
          rw [hbb] at hrb
          have hrv := h3.row
          rw [HLen.out] at hrv
          have hdn := HDn.out
          have hn1 := HN1.out
          have hlow := h3.low.size
          have HNot : Hid (¬ (a ∈ Ks ∧ b ∈ Ks)) := fun c => hma c.1
          have H3 := hideE h3
          have HRv := hideE hrv
          have h63 : d + 1 + 2 ≤ maxLen := by unfold maxLen; omega
          have hby : (d + 1 + 2) * 8 ≤ 140737488355328 := by omega
          clear h3 htb hrv hva hvb hma hbb
          go_upto_region 8 with fail
          go_wp2_with (at_builtin; refine wpList_append_own _ rfl _ _ 101 rfl w.heap.size 3 i0 (.int .i64 0) 1 8 Try.underlying101 hii hz0 hz1 hz2 rfl (by decide) _ _ _ rfl (HRv.out.alloc _) ⟨_, 0, none⟩ 2 2 [.int .i64 (a : Int), .int .i64 (b : Int)] rfl rfl (World.news_of_block (cs := #[.int .i64 (a : Int), .int .i64 (b : Int)]) (t := 3) (fr := (0, 0)) (heap_alloc_new w3 _)) (by simp [Value.oneCell']) h63 hby (by simp; omega) ?_; intro v2 w5 hown2 hgrow _)
          have HSx := (HSt.out.expand HT.out HA.out HB.out HNot.out).2
          go_roundg (wS (s0 ++ [(k, true)] ++ [(a, false), (b, false)]))
          case measure => exact HSx
          case rel => exact ⟨_, _, _, rfl, H3.out.push HT.out HA.out HB.out HNot.out (by rw [HD.out]; exact hown2) hgrow⟩
end Go.Proofs.Ythlefedljgmmfab
namespace Go.Proofs.Ythlefedljgmmfab
open Go.RowKit Go.Lib Go.Shelf Tm
set_option linter.unusedSimpArgs false
set_option linter.unusedVariables false

/-- A term that is no reckoning. -/
theorem leaf_is {i : Nat} {t : Trm} (h : Fine i t) (hk : t.kind ≠ 2) : (∃ v, t = constT v) ∨ (∃ r : Nat, 0 < r ∧ r < 32 ∧ t = regT (r : Int)) := by
  rcases h with h | h | ⟨op, a, b, _, _, _, _, rfl⟩
  · exact .inl h
  · exact .inr h
  · exact absurd rfl hk
set_option maxHeartbeats 2000000 in
set_option maxRecDepth 100000 in
theorem eval1_any {L : List Trm} {x : Nat → BitVec 32} {xb : Nat} (W : World) (k : Nat) (t : Trm) (hok : OkT L) (ht : L[k]? = some t) (hk : t.kind ≠ 2) (hx : W.heap[xb]? = some (.cells (regsC x) 73 (0, 0))) :
    Calls Try.prog 45 #[.agg (termC t), .pointer (some ⟨xb, 0, none⟩)] W fun e W' => e = .returned (.int .u32 ((valN x L k).toNat : Int)) ∧ Below W.heap.size W W' := by
  rcases leaf_is (hok.fine k t ht) hk with ⟨v, rfl⟩ | ⟨r, h0, hr, rfl⟩
  · have hv : valN x L k = v := val_const x ht
    have HB := hideE ((Below.refl _ W).alloc (Nat.le_refl _) (.cells #[.int .i64 0, .int .u32 (v.toNat : Int), .int .i64 0, .int .i64 0, .int .i64 0] 36))
    rw [hv]
    clear hv ht hk hx hok
    simp only [termC, constT]
    go_enter Try.func45, Try.ntmps45
    go_wp2_with fail
    go_ret
    exact ⟨rfl, HB.out⟩
  · have hv : valN x L k = x r := val_reg x h0 hr ht
    have hlt := (Array.getElem?_eq_some_iff.1 hx).1
    rw [reg_nat h0 hr]
    have hm : ((BitVec.ofNat 32 r).toNat : Int) = (r : Int) := by rw [BitVec.toNat_ofNat, Nat.mod_eq_of_lt (by omega)]
    have hx2 := (Below.heap_alloc W (.cells #[.int .i64 1, .int .u32 (r : Int), .int .i64 0, .int .i64 0, .int .i64 0] 36) xb hlt).trans hx
    have hc := regs_get x hr
    have cx : (W.alloc (.cells #[.int .i64 1, .int .u32 (r : Int), .int .i64 0, .int .i64 0, .int .i64 0] 36)).cell? ⟨xb, r, none⟩ = some (.int .u32 ((x r).toNat : Int)) := by simp [World.cell?, hx2, hc]
    have HB := hideE ((Below.refl _ W).alloc (Nat.le_refl _) (.cells #[.int .i64 1, .int .u32 (r : Int), .int .i64 0, .int .i64 0, .int .i64 0] 36))
    have hri : (r : Int) < 32 := by omega
    have hr0 : (0 : Int) ≤ (r : Int) := by omega
    rw [hv]
    simp only [termC, hm]
    clear hv ht hk hx hok hm hx2 hc h0 hr hlt
    go_enter Try.func45, Try.ntmps45
    go_wp2_with fail
    go_ret
    exact ⟨rfl, HB.out⟩
set_option maxHeartbeats 2000000 in
theorem eval2_any {L : List Trm} {x : Nat → BitVec 32} (W : World) (k : Nat) (op : Int) (a b : Nat) (ht : L[k]? = some (opT op (a : Int) (b : Int))) (ha : a < k) (hb : b < k) :
    Calls Try.prog 46 #[.int .i64 op, .int .u32 ((valN x L a).toNat : Int), .int .u32 ((valN x L b).toNat : Int)] W fun e W' => e = .returned (.int .u32 ((valN x L k).toNat : Int)) ∧ Below W.heap.size W W' := by
  have HD := hideE (do_any op (valN x L a) (valN x L b) W)
  rw [← val_op x ht ha hb] at HD
  obtain ⟨p, hp⟩ : ∃ p : Int, ((valN x L a).toNat : Int) = p := ⟨_, rfl⟩
  obtain ⟨q, hq⟩ : ∃ q : Int, ((valN x L b).toNat : Int) = q := ⟨_, rfl⟩
  obtain ⟨z, hz⟩ : ∃ z : Int, ((valN x L k).toNat : Int) = z := ⟨_, rfl⟩
  obtain ⟨er, her⟩ : ∃ er : Int, Wd.err op = er := ⟨_, rfl⟩
  rw [hp, hq, hz, her] at HD
  rw [hp, hq, hz]
  clear hp hq hz her ht
  go_enter Try.func46, Try.ntmps46
  go_wp2_with (go_at_call 24; refine HD.out.mono ?_; rintro e w1 ⟨rfl, rfl⟩)
  go_ret
  exact ⟨rfl, Below.refl _ _⟩
set_option maxHeartbeats 2000000 in
theorem vars1_any {L : List Trm} (W : World) (k : Nat) (t : Trm) (hok : OkT L) (ht : L[k]? = some t) (hk : t.kind ≠ 2) :
    Calls Try.prog 48 #[.agg (termC t)] W fun e W' => e = .returned (.int .u32 ((needN L k).toNat : Int)) ∧ Below W.heap.size W W' := by
  rcases leaf_is (hok.fine k t ht) hk with ⟨v, rfl⟩ | ⟨r, h0, hr, rfl⟩
  · have hv : ((needN L k).toNat : Int) = 0 := by rw [need_const ht]; rfl
    have HB := hideE ((Below.refl _ W).alloc (Nat.le_refl _) (.cells #[.int .i64 0, .int .u32 (v.toNat : Int), .int .i64 0, .int .i64 0, .int .i64 0] 36))
    rw [hv]
    clear hv ht hk hok
    simp only [termC, constT]
    go_enter Try.func48, Try.ntmps48
    go_wp2_with fail
    go_ret
    exact ⟨rfl, HB.out⟩
  · have hz : (2 : Int) ^ r % 4294967296 = ((needN L k).toNat : Int) := by rw [need_reg h0 hr ht]; exact two_shl r hr
    have HZ := hideE hz
    rw [reg_nat h0 hr]
    have hm : ((BitVec.ofNat 32 r).toNat : Int) = (r : Int) := by rw [BitVec.toNat_ofNat, Nat.mod_eq_of_lt (by omega)]
    have HB := hideE ((Below.refl _ W).alloc (Nat.le_refl _) (.cells #[.int .i64 1, .int .u32 (r : Int), .int .i64 0, .int .i64 0, .int .i64 0] 36))
    simp only [termC, hm]
    have hri : (r : Int) < 32 := by omega
    have hr0 : (0 : Int) ≤ (r : Int) := by omega
    clear hz ht hk hok hm
    go_enter Try.func48, Try.ntmps48
    go_wp2_with fail
    go_ret
    exact ⟨by rw [← HZ.out]; rfl, HB.out⟩
set_option maxHeartbeats 2000000 in
theorem vars2_any {L : List Trm} (W : World) (k : Nat) (op : Int) (a b : Nat) (ht : L[k]? = some (opT op (a : Int) (b : Int))) (ha : a < k) (hb : b < k) :
    Calls Try.prog 49 #[.int .i64 op, .int .u32 ((needN L a).toNat : Int), .int .u32 ((needN L b).toNat : Int)] W fun e W' => e = .returned (.int .u32 ((needN L k).toNat : Int)) ∧ Below W.heap.size W W' := by
  have hz : bits .or .u32 ((needN L a).toNat : Int) ((needN L b).toNat : Int) = ((needN L k).toNat : Int) := by rw [need_op ht ha hb]; exact Wd.or_ _ _
  have HZ := hideE hz
  clear hz ht
  go_enter Try.func49, Try.ntmps49
  go_wp2_with fail
  go_ret
  exact ⟨by rw [← HZ.out]; rfl, Below.refl _ _⟩
variable {g : Nat} {L : List Trm} {fp : Nat → Prop}
theorem nodeT_no {n : Int} (h : hasN L n = false) : nodeE L n = 100 := by unfold nodeE; rw [h]; rfl
theorem hasN_yes {n : Int} (h : hasN L n = true) : ∃ d : Nat, n = (d : Int) ∧ d < L.length := by
  have hN := of_decide_eq_true h
  exact ⟨n.toNat, by omega, by omega⟩
set_option maxHeartbeats 4000000 in
set_option maxRecDepth 100000 in
theorem teval_any (n : Int) (x : Nat → BitVec 32) (w : World) (hok : OkT L) (hl : L.length ≤ 1000) (h : CDag w g L fp) :
    Calls Try.prog 25 #[ptrV g, .int .i64 n, .agg (regsC x)] w fun e w' => e = .returned (.tuple #[.int .u32 ((evalN x L n).toNat : Int), .int .i64 (nodeE L n : Int)]) ∧ Below w.heap.size w w' := by
  have b0 := (Below.refl _ w).alloc (Nat.le_refl _) (.cells (regsC x) 73)
  have h1 := h.ext b0
  have hxb := heap_alloc_new w (.cells (regsC x) 73)
  have HA := hideE (thas_any n _ h1)
  have hsz : (w.alloc (.cells (regsC x) 73)).heap.size = w.heap.size + 1 := World.size_alloc _ _
  cases hh : hasN L n with
  | false =>
    rw [hh] at HA
    have HE := hideE (nodeT_no hh)
    have HV : Hid (evalN x L n = (BitVec.ofNat 32 0)) := by show _ = _; unfold evalN; rw [hh]; rfl
    have HB := hideE b0
    obtain ⟨X, hX⟩ : ∃ X, regsC x = X := ⟨_, rfl⟩
    rw [hX] at HA HB ⊢
    clear b0 h1 hxb hh h hsz hX
    simp only [ptrV] at HA ⊢
    go_enter Try.func25, Try.ntmps25
    go_wp2_with (go_at_call 23; refine HA.out.mono ?_; rintro e w1 ⟨rfl, rfl⟩)
    go_ret2
    exact ⟨by rw [HE.out, HV.out]; rfl, HB.out⟩
  | true =>
    rw [hh] at HA
    obtain ⟨d, rfl, hd⟩ := hasN_yes hh
    have HE : Hid (nodeE L (d : Int) = 0) := by show _ = _; unfold nodeE; rw [hh]; rfl
    have HV : Hid (evalN x L (d : Int) = valN x L d) := by show _ = _; unfold evalN; rw [hh, Int.toNat_natCast]; rfl
    have hf := tfold_any (fp := fp) (valN x L) 45 46 #[.pointer (some ⟨w.heap.size, 0, none⟩)] #[] (enters_of Try.func45 (by kernel_rfl) rfl) (enters_of Try.func46 (by kernel_rfl) rfl) d _ hok hl hd h1
      (fun W k t hb ht hk => eval1_any W k t hok ht hk (keptE hb (by rw [hsz]; omega) hxb)) (fun W k op a b ht ha hb => eval2_any W k op a b ht ha hb)
    have HF := hideE hf
    have HB := hideE b0
    obtain ⟨X, hX⟩ : ∃ X, regsC x = X := ⟨_, rfl⟩
    rw [hX] at HA HB HF ⊢
    clear hf b0 h1 hxb hh h hok hl hd hX
    simp only [ptrV] at HA HF ⊢
    have hmf : ∀ (fn : Fn) (first cap : Array Value) (w : World), (Instr.makeFunc fn first cap).run Try.prog w = .ok (.func fn first cap) w := fun _ _ _ _ => rfl
    go_enter Try.func25, Try.ntmps25
    go_wp2_with (first
      | (go_at_call 23; refine HA.out.mono ?_; rintro e w1 ⟨rfl, rfl⟩)
      | (go_at_call 47; refine HF.out.mono ?_; rintro e w1 ⟨rfl, hb⟩; have HB2 := hideE hb; clear hb))
    go_ret2
    exact ⟨by rw [HE.out, HV.out]; rfl, HB.out.trans (HB2.out.mono (by rw [World.size_alloc]; omega))⟩
set_option maxHeartbeats 4000000 in
set_option maxRecDepth 100000 in
theorem tvars_any (n : Int) (w : World) (hok : OkT L) (hl : L.length ≤ 1000) (h : CDag w g L fp) :
    Calls Try.prog 26 #[ptrV g, .int .i64 n] w fun e w' => e = .returned (.tuple #[.int .u32 ((varsN L n).toNat : Int), .int .i64 (nodeE L n : Int)]) ∧ Below w.heap.size w w' := by
  have HA := hideE (thas_any n _ h)
  cases hh : hasN L n with
  | false =>
    rw [hh] at HA
    have HE := hideE (nodeT_no hh)
    have HV : Hid (varsN L n = (BitVec.ofNat 32 0)) := by show _ = _; unfold varsN; rw [hh]; rfl
    clear hh h
    simp only [ptrV] at HA ⊢
    go_enter Try.func26, Try.ntmps26
    go_wp2_with (go_at_call 23; refine HA.out.mono ?_; rintro e w1 ⟨rfl, rfl⟩)
    go_ret2
    exact ⟨by rw [HE.out, HV.out]; rfl, Below.refl _ _⟩
  | true =>
    rw [hh] at HA
    obtain ⟨d, rfl, hd⟩ := hasN_yes hh
    have HE : Hid (nodeE L (d : Int) = 0) := by show _ = _; unfold nodeE; rw [hh]; rfl
    have HV : Hid (varsN L (d : Int) = needN L d) := by show _ = _; unfold varsN; rw [hh, Int.toNat_natCast]; rfl
    have hf := tfold_any (fp := fp) (needN L) 48 49 #[] #[] (enters_of Try.func48 (by kernel_rfl) rfl) (enters_of Try.func49 (by kernel_rfl) rfl) d _ hok hl hd h
      (fun W k t hb ht hk => vars1_any W k t hok ht hk) (fun W k op a b ht ha hb => vars2_any W k op a b ht ha hb)
    have HF := hideE hf
    clear hf hh h hok hl hd
    simp only [ptrV] at HA HF ⊢
    go_enter Try.func26, Try.ntmps26
    go_wp2_with (first
      | (go_at_call 23; refine HA.out.mono ?_; rintro e w1 ⟨rfl, rfl⟩)
      | (go_at_call 47; refine HF.out.mono ?_; rintro e w1 ⟨rfl, hb⟩; have HB2 := hideE hb; clear hb))
    go_ret2
    exact ⟨by rw [HE.out, HV.out]; rfl, HB2.out⟩
/-- The code's terms meet all that the laws ask. -/
theorem tm10 : TmAll CDag where
  lt := fun h => h.lt
  keep := fun h hs hk => h.keep hs hk
  new := tnew_any
  const := fun v hok hl h => tconst_any v _ hok hl h
  var := fun r hr hok hl h => tvar_any r hr _ hok hl h
  op := fun op a b ho _ _ hok hl h => top_any op a b ho _ hok hl h
  len := fun hok hl h => (tlen_any _ h).mono (by rintro e w' ⟨rfl, rfl⟩; exact ⟨rfl, _, h, chg_refl _ _⟩)
  node := fun n _ hok hl h => (tnode_any n _ h).mono (by rintro e w' ⟨rfl, hb⟩; exact ⟨rfl, _, h.ext hb, Chg.of_below hb⟩)
  eval := fun n x _ hok hl h => (teval_any n x _ hok hl h).mono (by rintro e w' ⟨rfl, hb⟩; exact ⟨rfl, _, h.ext hb, Chg.of_below hb⟩)
  vars := fun n _ hok hl h => (tvars_any n _ hok hl h).mono (by rintro e w' ⟨rfl, hb⟩; exact ⟨rfl, _, h.ext hb, Chg.of_below hb⟩)
  copy := fun hok hl h => tcopy_any _ hl h
end Go.Proofs.Ythlefedljgmmfab
