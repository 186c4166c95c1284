/-
  The walk of the document's Next (layer 8).
-/
import Derived.Deep.QuietTactic
import Derived.BigQuiet
import Derived.Test.YtcffpmicencfpaaGreatZC8
import Derived.Test.YtcffpmicencfpaaGreatZC9
import Derived.Test.YtcffpmicencfpaaGreatZD1
import Derived.Test.YtcffpmicencfpaaGreatZD6
namespace Go.Proofs.YtcffpmicencfpaaGreat
open Go.RowKit Go.Lib Go.Sort Go.Maps Ip Bl Pm
set_option linter.unusedSimpArgs false
set_option linter.unusedVariables false

theorem slb_at {W : World} {g n c : Nat} {l : List (Nat × Nat)} (h : SlB W (.slice (some ⟨g, 0, none⟩) n c) l) {k : Nat} {b : Nat × Nat} (hk : l[k]? = some b) : W.cell? ⟨g, k * 2, none⟩ = some (.int .u32 (b.1 : Int)) ∧ W.cell? ⟨g, k * 2 + 1, none⟩ = some (.int .i64 (b.2 : Int)) := by
  obtain ⟨g', hg', c3, c4⟩ := h.at hk
  injection hg' with hg'
  injection hg' with hg'
  subst hg'
  exact ⟨c3, c4⟩
/-- While the document's Next is at work. -/
structure Ny (w : World) (gx : Nat) (X : Ins) (vo : Value) (out : List Nat) (W : World) : Prop where
  xb : W.heap[gx]? = some (.cells (insC X) 47 (0, 0))
  ow : W.ownsRow w.heap.size 3 1 vo out.length (out.map numV8)
  low : Below w.heap.size w W
variable {w : World} {gx : Nat} {X : Ins} {vo : Value} {out : List Nat} {W W' : World}
theorem Ny.ext (h : Ny w gx X vo out W) (hb : Below W.heap.size W W') : Ny w gx X vo out W' :=
  ⟨keptN hb h.xb, h.ow.kept (grown_of_below hb) (by cases vo.ownBlock <;> simp), h.low.trans (hb.mono h.low.size)⟩
theorem Ny.drew (h : Ny w gx X vo out W) : Ny w gx X vo out W.drew := h.ext (Below.refl _ W).drew
theorem Ny.app (h : Ny w gx X vo out W) {o : Obj} {vo' : Value} {m : Nat} (hown : W'.ownsRow w.heap.size 3 1 vo' (out.length + 1) (out.map numV8 ++ [.int .i64 (m : Int)])) (hg : (W.alloc o).grownBy W' vo.ownBlock) : Ny w gx X vo' (out ++ [m]) W' := by
  have ha := h.ext ((Below.refl _ W).alloc (Nat.le_refl _) o)
  exact ⟨(hg.block gx (Array.getElem?_eq_some_iff.1 ha.xb).1 (row_box ha.ow ha.xb (by decide))).trans ha.xb, by simpa [numV8] using hown, ha.low.grown hg (by have := h.low.size; rw [World.size_alloc]; omega) (fun k e => (h.ow.lt k e).1)⟩
theorem owns_emptyI (W : World) (B : Nat) (hB : B ≤ W.heap.size) : (W.alloc (.cells #[] 3)).ownsRow B 3 1 (.slice (some ⟨W.heap.size, 0, none⟩) 0 0) 0 [] :=
  World.ownsRow_lit (e := 3) (size := 1) W #[] 0 hB (by unfold maxLen; omega) rfl
/-- What a slice of words yields to an append. -/
def nxtK (l : List (Nat × Nat)) (A : List Nat) (t : Nat) : List Nat := (List.range t).filter fun j => A.contains (l.getD j (0, 0)).1
theorem nxtK_succ (l : List (Nat × Nat)) (A : List Nat) (t : Nat) {b : Nat × Nat} (h : l[t]? = some b) : nxtK l A (t + 1) = if hasL A b.1 = true then nxtK l A t ++ [t] else nxtK l A t := by
  unfold nxtK hasL
  rw [List.range_succ, List.filter_append]
  have e : (l.getD t (0, 0)) = b := by rw [List.getD_eq_getElem?_getD, h]; rfl
  simp only [List.filter_cons, List.filter_nil, e]
  split <;> simp
theorem nxtK_len (l : List (Nat × Nat)) (A : List Nat) (t : Nat) : (nxtK l A t).length ≤ t := by
  unfold nxtK; exact Nat.le_trans (List.length_filter_le _ _) (by simp)
set_option maxHeartbeats 2000000 in
set_option maxRecDepth 100000 in
theorem rnext_any (i : Img) (v vl : Value) (l : List (Nat × Nat)) (k : Int) (hk0 : -9223372036854775808 ≤ k) (hk1 : k ≤ 9223372036854775807) (hl : FitB l) (hi : i.ok) (w : World) (hS : SlW w v i.words) (hB : SlB w vl l) :
    Calls Tryz.prog 11 #[imgV i v, vl, .int .i64 k] w fun e W' => ∃ u, e = .returned (.tuple #[u, .bool (nextV i l k).2]) ∧ W'.ownsRow w.heap.size 3 1 u (nextV i l k).1.length ((nextV i l k).1.map numV8) ∧ Below w.heap.size w W' := by
  obtain ⟨i0, hii, hz0, hz1, hz2⟩ := info_parts infoI
  obtain ⟨p0, q0, rfl, _⟩ := hS.len
  obtain ⟨pb, qb, rfl⟩ := hB.len
  obtain ⟨n, hn⟩ : ∃ n, l.length = n := ⟨_, rfl⟩
  have HN := hideE hn
  have hnl : n ≤ 1000000 := by rw [← hn]; exact hl.len
  rw [hn] at hB ⊢
  clear hn
  have b0 : ∀ o p, Below w.heap.size w ((w.alloc o).alloc p) := fun o p => ((Below.refl _ w).alloc (Nat.le_refl _) _).alloc (by simp) _
  have HB0 := hideE b0
  have HFit := hideE hl
  have HOE : Hid (∀ o, ((w.alloc o).alloc (.cells #[] 3)).ownsRow w.heap.size 3 1 (.slice (some ⟨w.heap.size + 1, 0, none⟩) 0 0) 0 []) := hideE (fun o => by have := owns_emptyI (w.alloc o) w.heap.size (by simp); rw [World.size_alloc] at this; exact this)
  clear hl
  simp only [imgV]
  by_cases hneg : k < 0
  · have hv := nextV_no (i := i) (l := l) (k := k) (fun h => by omega)
    rw [hv]
    clear hS hB hv b0
    go_enter Tryz.func11, Tryz.ntmps11
    go_wp2_with fail
    go_ret2
    exact ⟨_, rfl, HOE.out _, HB0.out _ _⟩
  · have hk0' : 0 ≤ k := by omega
    obtain ⟨kk, rfl⟩ := Int.eq_ofNat_of_zero_le hk0'
    have hkn : ¬ ((kk : Int) < 0) := by omega
    by_cases hge : n ≤ kk
    · have hge' : (n : Int) ≤ (kk : Int) := by omega
      have hv := nextV_no (i := i) (l := l) (k := (kk : Int)) (fun h => by have := h.2.1; rw [HN.out] at this; omega)
      rw [hv]
      clear hS hB hv b0 hge
      go_enter Tryz.func11, Tryz.ntmps11
      go_wp2_with fail
      go_ret2
      exact ⟨_, rfl, HOE.out _, HB0.out _ _⟩
    · have hge' : ¬ ((n : Int) ≤ (kk : Int)) := by omega
      have hlt' : (kk : Int) < (n : Int) := by omega
      have hkz : (0 : Int) ≤ (kk : Int) := by omega
      obtain ⟨b, hb⟩ : ∃ b, l[kk]? = some b := ⟨l[kk]'(by rw [HN.out]; omega), List.getElem?_eq_getElem (by rw [HN.out]; omega)⟩
      have hbm := List.mem_of_getElem? hb
      have hbp := HFit.out.pos b hbm
      have hba := HFit.out.at_ b hbm
      have hgd : l.getD (kk : Int).toNat (0, 0) = b := by rw [Int.toNat_natCast, List.getD_eq_getElem?_getD, hb]; rfl
      obtain ⟨g, rfl, _, _⟩ := hB.at hb
      have HKK := hideE hb
      obtain ⟨x, y⟩ := b
      obtain ⟨a, ha⟩ : ∃ a, lastA (x, y) = a := ⟨_, rfl⟩
      have hal : a < 4294967296 := by rw [← ha]; unfold lastA; omega
      have hle := last_eq x y hbp.1 hbp.2
      rw [ha] at hle
      have hw1 : IntKind.i64.wrap ((y : Int) - 1) = (y : Int) - 1 := wrE (by simp only at hbp; omega) (by simp only at hbp; omega)
      have hw2 : IntKind.i64.wrap (4 * ((y : Int) - 1)) = 4 * ((y : Int) - 1) := wrE (by simp only at hbp; omega) (by simp only at hbp; omega)
      obtain ⟨X, hX⟩ : ∃ X, insA i a = X := ⟨_, rfl⟩
      obtain ⟨ER, hER⟩ : ∃ ER, errA i a = ER := ⟨_, rfl⟩
      obtain ⟨op, rd, rs1, rs2, imm⟩ := X
      have HST := hideE (fun W hW => rat8_lit i (.slice p0 i.words.length q0) a hal hi op rd rs1 rs2 imm hX ER hER W hW)
      have HSW := hideE hS
      have HSB := hideE hB
      have HV : Hid (nextV i l (kk : Int) = if ER = 0 then (nxtL l (aftI ⟨op, rd, rs1, rs2, imm⟩ a), decide (op = 3)) else ([], false)) := by
        show _ = _
        unfold nextV
        rw [hgd, ha, hX, hER, HN.out]
        by_cases h : ER = 0
        · rw [if_pos ⟨hkz, hlt', h⟩, if_pos h]
        · rw [if_neg (fun c => h c.2.2), if_neg h]
      have hbx := heap_alloc_new w (.cells (imgC i (.slice p0 i.words.length q0)) 25)
      clear hS hB hb hbm hbp hba hgd hX hER ha b0
      simp only [imgV] at HST
      unfold imgC at hbx
      go_enter Tryz.func11, Tryz.ntmps11
      go_upto_region 4 with fail
      refine gen_world (fun W => W.heap[w.heap.size]? = some (.cells (imgC i (.slice p0 i.words.length q0)) 25 (0, 0)) ∧ W.ownsRow w.heap.size 3 1 (.slice (some ⟨w.heap.size + 1, 0, none⟩) 0 0) 0 [] ∧ Below w.heap.size w W) ⟨keptN ((Below.refl _ _).alloc (Nat.le_refl _) _) hbx, HOE.out _, HB0.out _ _⟩ ?_
      clear hbx
      rintro wa ⟨hib, how, hlow⟩
      obtain ⟨e0, e1⟩ := slb_at (HSB.out.below hlow) HKK.out
      simp only at e0 e1
      have HIB := hideE hib
      have HOW := hideE how
      have HLW := hideE hlow
      clear hib how hlow
      go_wp2_with fail
      go_quiet (fail)
      refine gen_world (fun W => W.heap[w.heap.size]? = some (.cells (imgC i (.slice p0 i.words.length q0)) 25 (0, 0)) ∧ W.ownsRow w.heap.size 3 1 (.slice (some ⟨w.heap.size + 1, 0, none⟩) 0 0) 0 [] ∧ Below w.heap.size w W) ⟨HIB.out, HOW.out.kept (grown_of_below (drew_low wa nq _)) (by simp [Value.ownBlock]), HLW.out.trans (drew_low wa nq _)⟩ ?_
      rw [hle]
      clear HIB HOW HLW e0 e1 hw1 hw2 hle
      rintro wc ⟨hib, how, hlow⟩
      have HOW := hideE how
      have HLW := hideE hlow
      have HSTa := hideE (HST.out wc (HSW.out.below hlow))
      clear how hlow HST
      unfold imgC at HSTa
      go_upto_region 6 with (first
        | (refine wpList_load_row rfl 25 _ rfl w.heap.size rfl _ _ _ _ hib Tryz.underlying25 rfl (by kernel_rfl) ?_)
        | (go_at_call 15; refine HSTa.out.mono ?_; rintro e wh ⟨rfl, hbh⟩))
      have hbl := HLW.out.trans (hbh.mono HLW.out.size)
      refine gen_world (Ny w wh.heap.size ⟨op, rd, rs1, rs2, imm⟩ (.slice (some ⟨w.heap.size + 1, 0, none⟩) 0 0) []) ⟨heap_alloc_new wh _, (HOW.out.kept (grown_of_below hbh) (by simp [Value.ownBlock])).kept (grown_of_below ((Below.refl _ _).alloc (Nat.le_refl _) _)) (by simp [Value.ownBlock]), hbl.alloc hbl.size _⟩ ?_
      clear hbl hbh hib HOW HLW HSTa
      generalize wh.heap.size = gx
      intro wd h1
      by_cases h0 : ER = 0
      · obtain ⟨A, hAA⟩ : ∃ A, aftI ⟨op, rd, rs1, rs2, imm⟩ a = A := ⟨_, rfl⟩
        have HV1 : Hid (nextV i l (kk : Int) = (nxtL l A, decide (op = 3))) := by show _ = _; rw [HV.out, if_pos h0, hAA]
        have hAA' := hideE hAA
        have z1 : ((ER : Nat) : Int) = 0 := by omega
        rw [z1]
        have HNY := hideE h1
        clear h1 h0 z1 hAA HV
        go_upto_region 9 with fail
        go_loopg [8, 12] n (fun q vo j W => ∃ (t : Nat), t + q = n ∧ j = .int .i64 (t : Int) ∧ Ny w gx ⟨op, rd, rs1, rs2, imm⟩ vo (nxtK l A t) W)
        case atStart => exact ⟨0, by omega, rfl, HNY.out⟩
        case round =>
          clear HNY
          obtain ⟨t, htq, rfl, h1⟩ := hrel
          cases gk with
          | zero =>
            obtain rfl : t = n := by omega
            have hk : ¬ ((t : Int) < (t : Int)) := by omega
            have hx1 := h1.xb
            obtain ⟨c0, c1, c2, c3, c4⟩ := five hx1
            have hfin : Hid (nxtK l A t = nxtL l A) := by show _ = _; unfold nxtK nxtL; rw [HN.out]
            have how := h1.ow
            rw [hfin.out] at how
            have HOW := hideE how
            have HLW := hideE h1.low
            clear h1 hx1 c1 c2 c3 c4 how
            go_wp2_with fail
            go_quiet (fail)
            go_wp2_with fail
            go_ret2
            rw [HV1.out]
            exact ⟨_, by rw [← beqD]; rfl, HOW.out, HLW.out.trans (drew_low _ _ _)⟩
          | succ q =>
            have hk : ((t : Int) < (n : Int)) := by omega
            have hkk0 : (0 : Int) ≤ (t : Int) := by omega
            have hwk : IntKind.i64.wrap ((t : Int) + 1) = (t : Int) + 1 := wrE (by omega) (by omega)
            obtain ⟨bz, hz⟩ : ∃ bz, l[t]? = some bz := ⟨l[t]'(by rw [HN.out]; omega), List.getElem?_eq_getElem (by rw [HN.out]; omega)⟩
            obtain ⟨z1, z2⟩ := bz
            have HPS := hideE (nxtK_succ l A t hz)
            have hpl : (nxtK l A t).length ≤ 1000000 := Nat.le_trans (nxtK_len l A t) (by omega)
            obtain ⟨P, hP⟩ : ∃ P, nxtK l A t = P := ⟨_, rfl⟩
            rw [hP] at h1 hpl
            have HP := hideE hP
            obtain ⟨pp, cp, rfl⟩ := own_slice' h1.ow
            have H1 := hideE h1
            have hAA := hAA'.out
            obtain ⟨fb, hfb⟩ : ∃ fb, hasL A z1 = fb := ⟨_, rfl⟩
            simp only [hfb] at HPS
            clear h1 hP
            go_upto_region 11 with fail
            refine wp_region_noPanic ?_
            refine wp_region_held_drew (S := Ny w gx ⟨op, rd, rs1, rs2, imm⟩ (.slice pp P.length cp) P) (by kernel_rfl) H1.out.drew (fun h0 => ?_)
            refine wpAnyH_takeAt (i := 0) (v := .agg #[.int .i64 op, .int .i64 rd, .int .i64 rs1, .int .i64 rs2, .int .i64 imm]) rfl (by kernel_rfl) (by kernel_rfl) (by kernel_rfl) (fun _ _ _ h => h) (yieldsIf_row (by rfl) _ _ rfl gx rfl _ _ _ _ (fun _ h => h.xb) Tryz.underlying47 rfl (by kernel_rfl)) h0 ?_
            simp only [Act.put, List.setIfInBounds_toArray, List.set_cons_zero, List.set_cons_succ]
            refine wpAnyH_takeAt (i := 1) (v := ?_) rfl (by kernel_rfl) (by kernel_rfl) (by kernel_rfl) (fun _ _ _ h => h) (Or.inl ⟨by rfl, ?_⟩) h0 ?_
            rotate_left 1
            · intro w' hS; clear hS
              go_simp <;> with_reducible rfl
            try simp only [Act.put, List.setIfInBounds_toArray, List.set_cons_zero, List.set_cons_succ]
            refine wpAnyH_takeAt (i := 3) (v := ?_) rfl (by kernel_rfl) (by kernel_rfl) (by kernel_rfl) (fun _ _ _ h => h) (Or.inl ⟨by rfl, ?_⟩) h0 ?_
            rotate_left 1
            · intro w' hS; clear hS
              go_simp <;> with_reducible rfl
            try simp only [Act.put, List.setIfInBounds_toArray, List.set_cons_zero, List.set_cons_succ]
            refine wpAnyH_takeAt (i := 4) (v := ?_) rfl (by kernel_rfl) (by kernel_rfl) (by kernel_rfl) (fun _ _ _ h => h) (Or.inl ⟨by rfl, ?_⟩) h0 ?_
            rotate_left 1
            · intro w' hS; clear hS
              go_simp <;> with_reducible rfl
            try simp only [Act.put, List.setIfInBounds_toArray, List.set_cons_zero, List.set_cons_succ]
            refine wpAnyH_takeAt (i := 5) (v := ?_) rfl (by kernel_rfl) (by kernel_rfl) (by kernel_rfl) (fun _ _ _ h => h) (Or.inl ⟨by rfl, ?_⟩) h0 ?_
            rotate_left 1
            · intro w' hS; clear hS
              go_simp <;> with_reducible rfl
            try simp only [Act.put, List.setIfInBounds_toArray, List.set_cons_zero, List.set_cons_succ]
            refine wpAnyH_takeAt (i := 6) (v := ?_) rfl (by kernel_rfl) (by kernel_rfl) (by kernel_rfl) (fun _ _ _ h => h) (Or.inl ⟨by rfl, ?_⟩) h0 ?_
            rotate_left 1
            · intro w' hS; clear hS
              go_simp <;> with_reducible rfl
            try simp only [Act.put, List.setIfInBounds_toArray, List.set_cons_zero, List.set_cons_succ]
            refine wpAnyH_takeAt (i := 7) (v := ?_) rfl (by kernel_rfl) (by kernel_rfl) (by kernel_rfl) (fun _ _ _ h => h) (Or.inl ⟨by rfl, ?_⟩) h0 ?_
            rotate_left 1
            · intro w' hS; have hq := slb_at (HSB.out.below hS.low) hz; obtain ⟨c3, c4⟩ := hq; clear hS
              go_simp <;> with_reducible rfl
            try simp only [Act.put, List.setIfInBounds_toArray, List.set_cons_zero, List.set_cons_succ]
            refine wpAnyH_ready (rs := [2]) (by kernel_rfl) (by simp) (allReady_at rfl (fun K hK => ?_))
            go_simp
            refine (rafter_any ⟨op, rd, rs1, rs2, imm⟩ a _).mono ?_
            rintro e w5 ⟨va, rfl, hAr, hb5⟩
            dsimp only
            have h1 : Ny w gx ⟨op, rd, rs1, rs2, imm⟩ (.slice pp P.length cp) P w5 := h0.ext hb5
            refine hK.out _ _ h1 (fun _ => ?_)
            clear hK K
            try simp only [Act.put, List.setIfInBounds_toArray, List.set_cons_zero, List.set_cons_succ]
            refine wpAnyH_ready (rs := [8]) (by kernel_rfl) (by simp) (allReady_at rfl (fun K hK => ?_))
            go_simp
            refine (has_any8 A va z1 (by rw [← hAA]; exact Nat.le_trans (aft_two _ _ _ _ _ _) (by decide)) _ (by rw [hAA] at hAr; exact slw_of_owns hAr)).mono ?_
            rintro e w6 ⟨rfl, hw6⟩
            dsimp only
            have hw7 := hw6.symm
            subst hw7
            clear hw6
            have h2 : Ny w gx ⟨op, rd, rs1, rs2, imm⟩ (.slice pp P.length cp) P w5 := h1
            refine hK.out _ _ h2 (fun _ => ?_)
            clear hK K
            try simp only [Act.put, List.setIfInBounds_toArray, List.set_cons_zero, List.set_cons_succ]
            refine wpAnyH_done (by kernel_rfl) ?_ _
            refine NoPanic.normal ?_
            rw [hfb]
            have H2 := hideE h2
            clear h0 h1 h2 hAr hb5 hAA
            cases fb with
            | false =>
              go_wp2_with fail
              go_roundg q
              case measure => omega
              case rel =>
                refine ⟨t + 1, by omega, by simp, ?_⟩
                rw [HPS.out, if_neg (by simp), HP.out]
                exact H2.out
            | true =>
              have how5 := H2.out.ow
              have hsz5 := H2.out.low.size
              go_wp2_with (at_builtin; refine wpList_append_own _ rfl _ _ 36 rfl w.heap.size 3 i0 (.int .i64 0) 1 8 Tryz.underlying36 hii hz0 hz1 hz2 rfl (by decide) _ _ _ rfl (how5.alloc _) ⟨_, 0, none⟩ 1 1 [.int .i64 (t : Int)] rfl rfl (cell_one_new _ _ _) (by simp [Value.oneCell']) (by unfold maxLen; omega) (by omega) (by simp; omega) ?_; intro vo' w6 hown' hgrow _)
              go_roundg q
              case measure => omega
              case rel =>
                refine ⟨t + 1, by omega, by simp, ?_⟩
                rw [HPS.out, if_pos trivial, HP.out]
                exact H2.out.app hown' hgrow
      · have hne : ((ER : Int) != 0) = true := bne_iff_ne.2 (by omega)
        have HV0 : Hid (nextV i l (kk : Int) = ([], false)) := by show _ = _; rw [HV.out, if_neg h0]
        have HNY := hideE h1
        clear h0 h1 HV
        go_wp2_with fail
        go_ret2
        rw [HV0.out]
        exact ⟨_, rfl, HNY.out.ow, HNY.out.low⟩
end Go.Proofs.YtcffpmicencfpaaGreat
