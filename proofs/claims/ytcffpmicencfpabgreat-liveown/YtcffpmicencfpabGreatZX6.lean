/-
  Contract of package live's Find, and all that the laws ask of package live.
-/

import Derived.Test.YtcffpmicencfpabGreatZX5
import Derived.Test.YtcffpmicencfpabGreatZY5
namespace Go.Proofs.YtcffpmicencfpabGreat
open Go.RowKit Go.Lib Go.Sort Go.Maps Ip Bl Lv Pm
set_option linter.unusedSimpArgs false
set_option linter.unusedVariables false

theorem nxOk_of {i : Img} {l : List (Nat × Nat)} (hl : l.length ≤ 1000) (hF : FitB l) {bf : Nat → List Nat} (hb : Bf (flowI i l) l.length 0 bf) : NxOk (flowI i l) l.length (nxT (flowI i l) l.length) bf :=
  ⟨rfl, hl, fun k hk => by unfold nxT; rw [if_pos hk], fun k _ j hj => next_in j hj, fun k _ => next_two hF, fun m j => hb.all m j, fun m => by have := hb.len m; omega⟩
theorem partS_ok {F : Fw} {n : Nat} {P : List Pt} (h : PartS F n P) (hl : P.length = n) : PtOk F P ∧ ∀ k, k < n → (waL P).getD k false = true := by
  refine ⟨fun k p hp => ?_, fun k hk => ?_⟩
  · have hk := (List.getElem?_eq_some_iff.1 hp).1
    have h1 := (h k p hp).1 (by omega)
    exact ⟨h1.1, h1.2.1⟩
  · have hp : P[k]? = some (P[k]'(by omega)) := List.getElem?_eq_getElem (by omega)
    rw [wa_get hp]
    exact ((h k _ hp).1 hk).2.2
set_option maxHeartbeats 8000000 in
set_option maxRecDepth 100000 in
theorem lfind_any (i : Img) (v vl : Value) (l : List (Nat × Nat)) (hl : l.length ≤ 1000) (hlt : ∀ b ∈ l, b.1 < 4294967296) (hi : i.ok) (w : World) (hS : SlW w v i.words) (hB : SlB w vl l) :
    Calls Tryz.prog 5 #[imgV i v, vl] w fun e W' => ∃ (a b : List Nat) (er : Nat), AnsL i l a b er ∧ ∃ ua ub : Value, e = .returned (.tuple #[ua, ub, .int .i64 (er : Int)]) ∧ W'.ownsRow w.heap.size 22 1 ua a.length (a.map wordV) ∧ W'.ownsRow w.heap.size 22 1 ub b.length (b.map wordV) ∧ Below w.heap.size w W' := by
  obtain ⟨p0, q0, rfl, _⟩ := hS.len
  obtain ⟨pb, qb, rfl⟩ := hB.len
  have hib := heap_alloc_new w (.cells (imgC i (.slice p0 i.words.length q0)) 26)
  have b0 : Below w.heap.size w (w.alloc (.cells (imgC i (.slice p0 i.words.length q0)) 26)) := (Below.refl _ w).alloc (Nat.le_refl _) _
  have HFo := hideE (found_any i (.slice p0 i.words.length q0) (.slice pb l.length qb) l hl hlt hi _ (hS.below b0) (hB.below b0))
  have HIB := hideE hib
  have HB0 := hideE b0
  have HS := hideE hS
  have HSL := hideE hB
  have HI := hideE hi
  have HLl := hideE hl
  clear hS hB hi hlt b0
  simp only [imgV] at HFo ⊢
  go_enter Tryz.func5, Tryz.ntmps5
  go_upto_if 11 with (first
    | (refine wpList_load_row rfl 26 _ rfl w.heap.size rfl _ _ _ _ hib Tryz.underlying26 rfl (by kernel_rfl) ?_)
    | (go_at_call 13; refine HFo.out.mono ?_; rintro e wa ⟨R, rfl, hR, hba⟩))
  have hba1 := HB0.out.trans (hba.mono (by simp))
  have hib1 := keptN hba HIB.out
  have HR := hideE hR
  have HLO := hideE hba1
  clear hR hba hba1 hib HFo HIB HB0
  cases R with
  | false =>
    have HAns : Hid (AnsL i l [] [] 1) := .inr ⟨fun e => (by have := HR.out.2 e; cases this), rfl, rfl, rfl⟩
    go_wp2_with fail
    go_ret3
    exact ⟨[], [], 1, HAns.out, _, _, rfl, World.ownsRow_nil _ _ _ _, World.ownsRow_nil _ _ _ _, HLO.out⟩
  | true =>
    have hr := HR.out.1 rfl
    have HRI := hideE hr
    have HW := hideE (whole_of HI.out hr)
    have HFI := hideE (fitU_of HI.out hr)
    have HFl := hideE (flowOf_any i (.slice p0 i.words.length q0) (.slice pb l.length qb) l HLl.out HI.out HW.out HFI.out wa (HS.out.below HLO.out) (HSL.out.below HLO.out))
    simp only [imgV] at HFl
    clear hr
    go_upto_region 4 with (first
      | (refine wpList_load_row rfl 26 _ rfl w.heap.size rfl _ _ _ _ hib1 Tryz.underlying26 rfl (by kernel_rfl) ?_)
      | (go_at_call 14; refine HFl.out.mono ?_; rintro e wb ⟨va, vb, vp, vw, P, bf, gf, rfl, hfm, hbf, hps⟩; obtain ⟨pa, ca, rfl⟩ := own_slice' hfm.ra; obtain ⟨pb2, cb, rfl⟩ := own_slice' hfm.rb; obtain ⟨pp, cp, rfl⟩ := own_slice' hfm.rp; obtain ⟨pw, cw, ew⟩ := hfm.valW; rw [List.length_range] at ew; subst ew; have HFm := hideE hfm; have HBf := hideE hbf; have HPs := hideE hps; clear hfm hbf hps))
    have hst : St (flowI i l) wa wa.heap.size wb.heap.size (.slice pa l.length ca) (.slice pb2 l.length cb) (.slice pp l.length cp) l.length (nxT (flowI i l) l.length) bf (leftF (flowI i l) (List.replicate l.length (BitVec.ofNat 32 0)) (List.range l.length).length) (List.replicate l.length (BitVec.ofNat 32 0)) (baseF (flowI i l) l.length) P (List.range l.length) (.slice pw l.length cw)
        (wb.alloc (.cells #[.slice pa l.length ca, .slice pb2 l.length cb, .slice pp l.length cp, .slice pw l.length cw] 50)) := by
      have h2 := HFm.out.ext ((Below.refl _ wb).alloc (Nat.le_refl _) (.cells #[.slice pa l.length ca, .slice pb2 l.length cb, .slice pp l.length cp, .slice pw l.length cw] 50))
      have h3 := h2.rebox (heap_alloc_new wb _) (Nat.le_of_lt HFm.out.size)
      have hpo := partS_ok HPs.out HFm.out.lenP
      have hfl := Fl.start (flowI i l) (ws := waL P) (by unfold waL; rw [List.length_map, HFm.out.lenP]; rfl) hpo.2
      exact ⟨h3, hfl, hpo.1, rfl⟩
    have HSe := hideE (settle_any (nxOk_of HLl.out HFI.out HBf.out) hst)
    clear hst hib1 HFm HPs HBf HFl
    go_upto_region 5 with (go_at_call 15; refine HSe.out.mono ?_; rintro e wc ⟨rfl, vw', A', B', P', hle, hbe, hf2⟩)
    obtain ⟨b0, b1, _, _, _⟩ := hf2.cells
    have HLe := hideE hle
    have HBe := hideE hbe
    have HF2 := hideE hf2
    clear hle hbe hf2 HSe
    go_wp2_with fail
    go_region
    go_wp2_with fail
    go_ret3
    have h9 := HF2.out.ext (Below.refl _ wc).drew
    have hsz := HLO.out.size
    have ra := own_lowN h9.ra hsz
    have rb := own_lowN h9.rb hsz
    have la : (natL A').length = l.length := by rw [natL_len]; exact h9.lenA
    have lb : (natL B').length = l.length := by rw [natL_len]; exact h9.lenB
    exact ⟨natL A', natL B', 0, .inl ⟨HRI.out, rfl, A', HLe.out, rfl, by rw [HBe.out]⟩, _, _, rfl, by rw [la]; exact ra, by rw [lb]; exact rb, HLO.out.trans (h9.low.mono hsz)⟩
/-- All that the laws ask of package live. -/
theorem lv9 : LvAll := { uses := luses_any, sets := lsets_any, back := fun l v n hl w hS => lback_any l v n hl w hS, find := fun i v vl l hl hlt hi w hS hB => lfind_any i v vl l hl hlt hi w hS hB }
end Go.Proofs.YtcffpmicencfpabGreat
