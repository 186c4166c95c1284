/-
  Contract of the document's leader.
-/

import Derived.Test.YtcffpmicencfpabGreatZC7
import Derived.Test.YtcffpmicencfpabGreatZD1
namespace Go.Proofs.YtcffpmicencfpabGreat
open Go.RowKit Go.Lib Go.Sort Ip Bl Pm
set_option linter.unusedSimpArgs false
set_option linter.unusedVariables false

/-- The document's leader, as far as the first k reached addresses tell. -/
def ledK (T : Tx) (L : List Nat) (k : Nat) (a : Nat) : Bool := (L.take k).any fun b => decide (T.err b = 0) && T.ends b && (T.suc b).contains a
theorem ledK_succ {T : Tx} {L : List Nat} {k a b : Nat} (h : L[k]? = some b) : ledK T L (k + 1) a = (ledK T L k a || (decide (T.err b = 0) && T.ends b && hasL (T.suc b) a)) := by
  unfold ledK hasL
  rw [List.take_add_one, h, List.any_append]
  simp
theorem ledK_mono {T : Tx} {L : List Nat} {k n a : Nat} (hk : k ≤ n) (h : ledK T L k a = true) : ledK T L n a = true := by
  unfold ledK at h ⊢
  rw [List.any_eq_true] at h ⊢
  obtain ⟨b, hb, e⟩ := h
  exact ⟨b, (List.take_subset_take_left L hk) hb, e⟩
theorem leader_led (T : Tx) (i : Img) (es L : List Nat) (a : Nat) : leader T (seedsI i es) L a = ((a == i.entry.toNat) || (hasL es a || ledK T L L.length a)) := by
  unfold leader ledK hasL seedsI
  rw [List.take_length, ← Bool.or_assoc]
  congr 1
theorem ltw {w : World} {g o : Nat} {v : Value} (h : w.cell? ⟨g, o, none⟩ = some v) : g < w.heap.size := by
  unfold World.cell? at h
  split at h
  · rename_i e; exact (Array.getElem?_eq_some_iff.1 e).1
  · cases h
/-- Memory: the image's box. -/
structure Ri (w : World) (i : Img) (u : Value) (W : World) : Prop where
  ib : W.heap[w.heap.size]? = some (.cells (imgC i u) 26 (0, 0))
  low : Below w.heap.size w W
  big : w.heap.size < W.heap.size
variable {w : World} {i : Img} {u : Value} {W W' : World}
theorem Ri.ext (h : Ri w i u W) (hb : Below W.heap.size W W') : Ri w i u W' := ⟨keptN hb h.ib, h.low.trans (hb.mono h.low.size), Nat.lt_of_lt_of_le h.big hb.size⟩
theorem Ri.new (w : World) (i : Img) (u : Value) : Ri w i u (w.alloc (.cells (imgC i u) 26)) := ⟨heap_alloc_new _ _, (Below.refl _ w).alloc (Nat.le_refl _) _, by simp⟩
theorem Ri.set (h : Ri w i u W) {g : Nat} (hlo : w.heap.size + 1 ≤ g) (k : Nat) (x : Value) : Ri w i u (W.setCell ⟨g, k, none⟩ x) :=
  ⟨(Below.heap_setCell _ _ _ _ (by show w.heap.size ≠ g; omega)).trans h.ib, h.low.setCell (by show w.heap.size ≤ g; omega) _, by have := h.big; simpa using this⟩
/-- .. with an instruction's box. -/
structure Rj (w : World) (i : Img) (u : Value) (gx : Nat) (X : Ins) (W : World) : Prop where
  ri : Ri w i u W
  xb : W.heap[gx]? = some (.cells (insC X) 38 (0, 0))
theorem Rj.new (h : Ri w i u W) (X : Ins) : Rj w i u W.heap.size X (W.alloc (.cells (insC X) 38)) := ⟨h.ext ((Below.refl _ _).alloc (Nat.le_refl _) _), heap_alloc_new _ _⟩
theorem Rj.five (h : Ri w i u W) {g : Nat} {z0 z1 z2 z3 z4 : Value} (hg : W.heap[g]? = some (.cells #[z0, z1, z2, z3, z4] 38 (0, 0))) (hlo : w.heap.size + 1 ≤ g) (X : Ins) :
    Rj w i u g X (((((W.setCell ⟨g, 0, none⟩ (.int .i64 X.op)).setCell ⟨g, 1, none⟩ (.int .i64 X.rd)).setCell ⟨g, 2, none⟩ (.int .i64 X.rs1)).setCell ⟨g, 3, none⟩ (.int .i64 X.rs2)).setCell ⟨g, 4, none⟩ (.int .i64 X.imm)) := by
  have g1 := heap_setCell_same _ g 0 _ _ (.int .i64 X.op) hg
  have g2 := heap_setCell_same _ g 1 _ _ (.int .i64 X.rd) g1
  have g3 := heap_setCell_same _ g 2 _ _ (.int .i64 X.rs1) g2
  have g4 := heap_setCell_same _ g 3 _ _ (.int .i64 X.rs2) g3
  have g5 := heap_setCell_same _ g 4 _ _ (.int .i64 X.imm) g4
  exact ⟨((((h.set hlo 0 _).set hlo 1 _).set hlo 2 _).set hlo 3 _).set hlo 4 _, by rw [g5]; rfl⟩
/-- .. with a word of a list besides. -/
structure Rl (w : World) (i : Img) (u : Value) (gx : Nat) (X : Ins) (g o b : Nat) (W : World) : Prop where
  rj : Rj w i u gx X W
  cell : W.cell? ⟨g, o, none⟩ = some (.int .u32 (b : Int))
theorem Rj.ext {gx : Nat} {X : Ins} (h : Rj w i u gx X W) (hb : Below W.heap.size W W') : Rj w i u gx X W' := ⟨h.ri.ext hb, keptN hb h.xb⟩
theorem Rl.ext {gx : Nat} {X : Ins} {g o b : Nat} (h : Rl w i u gx X g o b W) (hb : Below W.heap.size W W') : Rl w i u gx X g o b W' := ⟨h.rj.ext hb, by rw [hb.cell (by exact ltw h.cell)]; exact h.cell⟩
theorem Rl.drew {gx : Nat} {X : Ins} {g o b : Nat} (h : Rl w i u gx X g o b W) : Rl w i u gx X g o b W.drew := h.ext (Below.refl _ W).drew
theorem insBox (X : Ins) : (Tryz.prog.info? 38).map (·.size) = some (insC X).size := by kernel_rfl
theorem rends_at (X : Ins) (EN : Bool) (h : endsI X = EN) (w : World) : Calls Tryz.prog 11 #[.agg (insC X)] w fun e w' => e = .returned (.bool EN) ∧ Below w.heap.size w w' := by
  subst h; exact rends_any X w
theorem rafter_at (X : Ins) (a : Nat) (A : List Nat) (h : aftI X a = A) (w : World) : Calls Tryz.prog 20 #[.agg (insC X), .int .u32 (a : Int)] w fun e w' => ∃ v, e = .returned v ∧ w'.ownsRow w.heap.size 22 1 v A.length (A.map wordV) ∧ Below w.heap.size w w' := by
  subst h; exact rafter_any X a w
theorem rends_lit (op rd rs1 rs2 imm : Int) (EN : Bool) (h : endsI ⟨op, rd, rs1, rs2, imm⟩ = EN) (w : World) : Calls Tryz.prog 11 #[.agg #[.int .i64 op, .int .i64 rd, .int .i64 rs1, .int .i64 rs2, .int .i64 imm]] w fun e w' => e = .returned (.bool EN) ∧ Below w.heap.size w w' := by
  subst h; exact rends_any ⟨op, rd, rs1, rs2, imm⟩ w
set_option maxHeartbeats 8000000 in
set_option maxRecDepth 100000 in
theorem leader_any (i : Img) (v ve vl : Value) (es L : List Nat) (a : Nat) (hel : es.length ≤ 1000) (hL : L.length ≤ 2001001) (hlt : ∀ b ∈ L, b < 4294967296) (hi : i.ok) (w : World) (hS : SlW w v i.words) (hE : SlW w ve es) (hLs : SlW w vl L) :
    Calls Tryz.prog 12 #[imgV i v, ve, vl, .int .u32 (a : Int)] w fun e W' => e = .returned (.bool (leader (txI i) (seedsI i es) L a)) ∧ Below w.heap.size w W' := by
  obtain ⟨p0, q0, rfl, _⟩ := hS.len
  obtain ⟨pe, qe, rfl, _⟩ := hE.len
  obtain ⟨pl, ql, rfl, _⟩ := hLs.len
  have HA := hideE (leader_led (txI i) i es L a)
  obtain ⟨nL, hnL⟩ : ∃ nL, L.length = nL := ⟨_, rfl⟩
  have HNL := hideE hnL
  rw [hnL] at hL hLs ⊢
  clear hnL
  have hst := Ri.new w i (.slice p0 i.words.length q0)
  have HST := hideE hst
  have HS := hideE hS
  have HLS := hideE hLs
  have HI := hideE hi
  have HLT := hideE hlt
  obtain ⟨c0, c1, c2, c3⟩ := (four (show (w.alloc (.cells (imgC i (.slice p0 i.words.length q0)) 26)).heap[w.heap.size]? = some (.cells #[.int .u32 (i.base.toNat : Int), .int .u32 (i.entry.toNat : Int), .slice p0 i.words.length q0, .int .i64 (i.seg : Int)] 26 (0, 0)) from hst.ib)).1
  unfold imgC at c0 c1 c2 c3
  have HHas := hideE (fun W (hW : Below w.heap.size w W) => has_any8 es (.slice pe es.length qe) a (by omega) W (hE.below hW))
  have HLow := hideE hst.low
  clear hS hE hLs hi hlt hst
  simp only [imgV]
  by_cases h1 : a = i.entry.toNat
  · have hq : ((a : Int) == (i.entry.toNat : Int)) = true := by rw [h1]; simp
    have HT : Hid (leader (txI i) (seedsI i es) L a = true) := by show _ = _; rw [HA.out, h1]; simp
    clear h1
    go_enter Tryz.func12, Tryz.ntmps12
    go_wp2_with fail
    go_ret
    exact ⟨retb HT.out.symm, HLow.out⟩
  · have hq : ((a : Int) == (i.entry.toNat : Int)) = false := beq_eq_false_iff_ne.2 (by omega)
    have hq2 : (a == i.entry.toNat) = false := beq_eq_false_iff_ne.2 h1
    obtain ⟨hb, hhb⟩ : ∃ hb, hasL es a = hb := ⟨_, rfl⟩
    have HHb := hideE (fun W hW => hhb ▸ HHas.out W hW)
    have HA2 : Hid (leader (txI i) (seedsI i es) L a = (hb || ledK (txI i) L nL a)) := by show _ = _; rw [HA.out, hq2, hhb, HNL.out]; rfl
    clear h1 hq2 hhb HA HHas
    cases hb with
    | true =>
      go_enter Tryz.func12, Tryz.ntmps12
      go_wp2_with (go_at_call 10; refine (HHb.out _ HLow.out).mono ?_; rintro e w5 ⟨rfl, rfl⟩)
      go_ret
      exact ⟨retb (by rw [HA2.out]; rfl), HLow.out⟩
    | false =>
      go_enter Tryz.func12, Tryz.ntmps12
      go_upto_region 4 with (go_at_call 10; refine (HHb.out _ HLow.out).mono ?_; rintro e w5 ⟨rfl, rfl⟩)
      refine gen_world (Ri w i (.slice p0 i.words.length q0)) HST.out ?_
      clear c0 c1 c2 c3 HST HLow HHb
      intro wa h2
      go_loopg [9] nL (fun q j W => ∃ k : Nat, k + q = nL ∧ j = .int .i64 (k : Int) ∧ ledK (txI i) L k a = false ∧ Ri w i (.slice p0 i.words.length q0) W)
      case atStart => exact ⟨0, by omega, rfl, by simp [ledK], h2⟩
      case round =>
        clear h2
        obtain ⟨k, hkq, rfl, hled, h3⟩ := hrel
        have HLed := hideE hled
        clear hled
        cases gk with
        | zero =>
          obtain rfl : k = nL := by omega
          have hk : ¬ ((k : Int) < (k : Int)) := by omega
          have hlow := h3.low
          clear h3
          go_wp2_with fail
          go_ret
          exact ⟨retb (by rw [HA2.out, HLed.out]; rfl), hlow⟩
        | succ q =>
          have hk : ((k : Int) < (nL : Int)) := by omega
          have hk0 : (0 : Int) ≤ (k : Int) := by omega
          have hwk : IntKind.i64.wrap ((k : Int) + 1) = (k : Int) + 1 := wrE (by omega) (by omega)
          obtain ⟨b, hb⟩ : ∃ b, L[k]? = some b := ⟨L[k]'(by rw [HNL.out]; omega), List.getElem?_eq_getElem (by rw [HNL.out]; omega)⟩
          have hbl := HLT.out b (List.mem_of_getElem? hb)
          have hL3 := HLS.out.below h3.low
          obtain ⟨g, o, rfl, a3⟩ := hL3.at hb
          have ib' : wr.heap[w.heap.size]? = some (.cells #[.int .u32 (i.base.toNat : Int), .int .u32 (i.entry.toNat : Int), .slice p0 i.words.length q0, .int .i64 (i.seg : Int)] 26 (0, 0)) := h3.ib
          obtain ⟨⟨m0, m1, m2, m3⟩, _⟩ := four ib'
          have HBb := hideE hb
          have HBk := hideE (ledK_succ (T := txI i) (a := a) hb)
          obtain ⟨X, hX⟩ : ∃ X, insA i b = X := ⟨_, rfl⟩
          obtain ⟨op, rd, rs1, rs2, imm⟩ := X
          obtain ⟨ER, hER⟩ : ∃ ER, errA i b = ER := ⟨_, rfl⟩
          have HAt := hideE (fun W (hW : Below w.heap.size w W) => rat8_lit i (.slice p0 i.words.length q0) b hbl HI.out op rd rs1 rs2 imm hX ER hER W (HS.out.below hW))
          have HX := hideE hX
          have HER := hideE hER
          have hgl : g < wr.heap.size := ltw a3
          have hbg := h3.big
          have hgn : g ≠ wr.heap.size := by omega
          have hbn : w.heap.size ≠ wr.heap.size := by omega
          have hld := h3.low.drew
          have H3 := hideE h3
          clear hb hL3 ib' hX hER h3
          go_upto_region 6 with fail
          go_cut [10, 11] (fun s8 s9 W => ∃ gx, s8 = .pointer (some ⟨gx, 0, none⟩) ∧ s9 = .int .i64 (ER : Int) ∧ Rj w i (.slice p0 i.words.length q0) gx ⟨op, rd, rs1, rs2, imm⟩ W)
          case first =>
            go_region_with (go_at_call 9; refine (HAt.out _ (by first | exact hld | exact hld.alloc hld.size _)).mono ?_; rintro e wh ⟨rfl, hbh⟩; first | (obtain ⟨⟨y0, y1, y2, y3, y4⟩, f0, f1, f2, f3, f4⟩ := five_facts (keptN hbh (heap_alloc_new wr (.cells #[.int .i64 0, .int .i64 0, .int .i64 0, .int .i64 0, .int .i64 0] 38)))) | skip)
            all_goals
              go_wp2_with fail
              go_meet
              case rel =>
                first
                  | exact ⟨_, rfl, rfl, Rj.new ((H3.out.ext (Below.refl _ wr).drew).ext hbh) ⟨op, rd, rs1, rs2, imm⟩⟩
                  | exact ⟨_, rfl, rfl, Rj.five (((H3.out.ext (Below.refl _ wr).drew).ext ((Below.refl _ _).alloc (Nat.le_refl _) _)).ext hbh) (keptN hbh (heap_alloc_new wr (.cells #[.int .i64 0, .int .i64 0, .int .i64 0, .int .i64 0, .int .i64 0] 38))) (by omega) ⟨op, rd, rs1, rs2, imm⟩⟩
          case rest =>
            clear a3 m0 m1 m2 m3 hld hbg hgl hgn hbn H3 HAt
            obtain ⟨gx, rfl, rfl, h5⟩ := hcut
            obtain ⟨c0, c1, c2, c3, c4⟩ := five (show wc.heap[gx]? = some (.cells #[.int .i64 op, .int .i64 rd, .int .i64 rs1, .int .i64 rs2, .int .i64 imm] 38 (0, 0)) from h5.xb)
            have a3 : wc.cell? ⟨g, o + k, none⟩ = some (.int .u32 (b : Int)) := by
              have := (HLS.out.below h5.ri.low).at HBb.out
              obtain ⟨g', o', e, h⟩ := this
              injection e with e; injection e with e1 e2; subst e1 e2; exact h
            have H5 := hideE h5.ri
            obtain ⟨X, hXX⟩ : ∃ X : Ins, (⟨op, rd, rs1, rs2, imm⟩ : Ins) = X := ⟨_, rfl⟩
            have HL : Hid (Rl w i (.slice p0 i.words.length q0) gx X g (o + k) b wc) := ⟨hXX ▸ h5, a3⟩
            rw [hXX] at HX
            clear h5
            obtain ⟨EN, hEN⟩ : ∃ EN, endsI X = EN := ⟨_, rfl⟩
            obtain ⟨A, hAf⟩ : ∃ A, aftI X b = A := ⟨_, rfl⟩
            have hA2 : A.length ≤ 2 := by rw [← hAf]; exact aft_two _ _ _ _ _ _
            have HEn := hideE (fun W => rends_at X EN hEN W)
            have HAf := hideE (fun W => rafter_at X b A hAf W)
            have HK : Hid (ledK (txI i) L (k + 1) a = (decide (ER = 0) && EN && hasL A a)) := by
              show _ = _
              rw [HBk.out, HLed.out, ← HER.out, ← hEN, ← hAf, ← HX.out]; rfl
            clear hEN hAf
            by_cases h0 : ER = 0
            · subst h0
              cases EN with
              | false =>
                have HK2 : Hid (ledK (txI i) L (k + 1) a = false) := by show _ = _; rw [HK.out]; simp
                go_wp2_with fail
                refine wp_region_noPanic ?_
                refine wp_region_held_drew (S := Rl w i (.slice p0 i.words.length q0) gx X g (o + k) b) (by kernel_rfl) HL.out.drew (fun h0 => ?_)
                refine wpAnyH_takeAt (i := 0) (v := ?_) rfl (by kernel_rfl) (by kernel_rfl) (by kernel_rfl) (fun _ _ _ h => h) (Or.inl ⟨by rfl, ?_⟩) h0 ?_
                rotate_left 1
                · intro w' hS; have a3 := hS.cell; clear hS
                  go_simp <;> with_reducible rfl
                try simp only [Act.put, List.setIfInBounds_toArray, List.set_cons_zero, List.set_cons_succ]
                refine wpAnyH_takeAt (i := 1) (v := ?_) rfl (by kernel_rfl) (by kernel_rfl) (by kernel_rfl) (fun _ _ _ h => h) (Or.inl ⟨by rfl, ?_⟩) h0 ?_
                rotate_left 1
                · intro w' hS; have a3 := hS.cell; clear hS
                  go_simp <;> with_reducible rfl
                try simp only [Act.put, List.setIfInBounds_toArray, List.set_cons_zero, List.set_cons_succ]
                refine wpAnyH_takeAt (i := 2) (v := ?_) rfl (by kernel_rfl) (by kernel_rfl) (by kernel_rfl) (fun _ _ _ h => h) (Or.inl ⟨by rfl, ?_⟩) h0 ?_
                rotate_left 1
                · intro w' hS; have a3 := hS.cell; clear hS
                  go_simp <;> with_reducible rfl
                try simp only [Act.put, List.setIfInBounds_toArray, List.set_cons_zero, List.set_cons_succ]
                refine wpAnyH_takeAt (i := 3) (v := .agg (insC X)) rfl (by kernel_rfl) (by kernel_rfl) (by kernel_rfl) (fun _ _ _ h => h) (yieldsIf_row (by rfl) _ _ rfl gx rfl _ _ _ _ (fun _ h => h.rj.xb) Tryz.underlying38 rfl (insBox _)) h0 ?_
                simp only [Act.put, List.setIfInBounds_toArray, List.set_cons_zero, List.set_cons_succ]
                refine wpAnyH_ready (rs := [4]) (by kernel_rfl) (by simp) (allReady_at rfl (fun K hK => ?_))
                go_simp
                refine (HEn.out _).mono ?_
                rintro e w1 ⟨rfl, hb1⟩
                dsimp only
                have h1 : Rl w i (.slice p0 i.words.length q0) gx X g (o + k) b w1 := h0.ext hb1
                refine hK.out _ _ h1 (fun _ => ?_)
                clear hK K
                try simp only [Act.put, List.setIfInBounds_toArray, List.set_cons_zero, List.set_cons_succ]
                refine wpAnyH_takeAt (i := 5) (v := ?_) rfl (by kernel_rfl) (by kernel_rfl) (by kernel_rfl) (fun _ _ _ h => h) (Or.inl ⟨by rfl, ?_⟩) h1 ?_
                rotate_left 1
                · intro w' hS; have a3 := hS.cell; clear hS
                  go_simp <;> with_reducible rfl
                try simp only [Act.put, List.setIfInBounds_toArray, List.set_cons_zero, List.set_cons_succ]
                refine wpAnyH_takeAt (i := 6) (v := ?_) rfl (by kernel_rfl) (by kernel_rfl) (by kernel_rfl) (fun _ _ _ h => h) (Or.inl ⟨by rfl, ?_⟩) h1 ?_
                rotate_left 1
                · intro w' hS; have a3 := hS.cell; clear hS
                  go_simp <;> with_reducible rfl
                try simp only [Act.put, List.setIfInBounds_toArray, List.set_cons_zero, List.set_cons_succ]
                refine wpAnyH_takeAt (i := 7) (v := undef) rfl (by kernel_rfl) (by kernel_rfl) (by kernel_rfl) (fun _ _ _ h => h) (Or.inr ⟨by rfl, rfl⟩) h1 ?_
                try simp only [Act.put, List.setIfInBounds_toArray, List.set_cons_zero, List.set_cons_succ]
                refine wpAnyH_takeAt (i := 8) (v := undef) rfl (by kernel_rfl) (by kernel_rfl) (by kernel_rfl) (fun _ _ _ h => h) (Or.inr ⟨by rfl, rfl⟩) h1 ?_
                try simp only [Act.put, List.setIfInBounds_toArray, List.set_cons_zero, List.set_cons_succ]
                refine wpAnyH_takeAt (i := 9) (v := undef) rfl (by kernel_rfl) (by kernel_rfl) (by kernel_rfl) (fun _ _ _ h => h) (Or.inr ⟨by rfl, rfl⟩) h1 ?_
                try simp only [Act.put, List.setIfInBounds_toArray, List.set_cons_zero, List.set_cons_succ]
                refine wpAnyH_takeAt (i := 10) (v := undef) rfl (by kernel_rfl) (by kernel_rfl) (by kernel_rfl) (fun _ _ _ h => h) (Or.inr ⟨by rfl, rfl⟩) h1 ?_
                try simp only [Act.put, List.setIfInBounds_toArray, List.set_cons_zero, List.set_cons_succ]
                refine wpAnyH_takeAt (i := 11) (v := undef) rfl (by kernel_rfl) (by kernel_rfl) (by kernel_rfl) (fun _ _ _ h => h) (Or.inr ⟨by rfl, rfl⟩) h1 ?_
                try simp only [Act.put, List.setIfInBounds_toArray, List.set_cons_zero, List.set_cons_succ]
                refine wpAnyH_takeAt (i := 12) (v := undef) rfl (by kernel_rfl) (by kernel_rfl) (by kernel_rfl) (fun _ _ _ h => h) (Or.inr ⟨by rfl, rfl⟩) h1 ?_
                try simp only [Act.put, List.setIfInBounds_toArray, List.set_cons_zero, List.set_cons_succ]
                refine wpAnyH_takeAt (i := 13) (v := undef) rfl (by kernel_rfl) (by kernel_rfl) (by kernel_rfl) (fun _ _ _ h => h) (Or.inr ⟨by rfl, rfl⟩) h1 ?_
                try simp only [Act.put, List.setIfInBounds_toArray, List.set_cons_zero, List.set_cons_succ]
                refine wpAnyH_takeAt (i := 14) (v := undef) rfl (by kernel_rfl) (by kernel_rfl) (by kernel_rfl) (fun _ _ _ h => h) (Or.inr ⟨by rfl, rfl⟩) h1 ?_
                try simp only [Act.put, List.setIfInBounds_toArray, List.set_cons_zero, List.set_cons_succ]
                refine wpAnyH_takeAt (i := 15) (v := ?_) rfl (by kernel_rfl) (by kernel_rfl) (by kernel_rfl) (fun _ _ _ h => h) (Or.inl ⟨by rfl, ?_⟩) h1 ?_
                rotate_left 1
                · intro w' hS; have a3 := hS.cell; clear hS
                  go_simp <;> with_reducible rfl
                try simp only [Act.put, List.setIfInBounds_toArray, List.set_cons_zero, List.set_cons_succ]
                refine wpAnyH_done (by kernel_rfl) ?_ _
                refine NoPanic.normal ?_
                go_wp2_with fail
                go_roundg q
                case measure => omega
                case rel => exact ⟨k + 1, by omega, by simp, HK2.out, h1.rj.ri⟩
              | true =>
                have HK2 : Hid (ledK (txI i) L (k + 1) a = hasL A a) := by show _ = _; rw [HK.out]; simp
                go_wp2_with fail
                refine wp_region_noPanic ?_
                refine wp_region_held_drew (S := Rl w i (.slice p0 i.words.length q0) gx X g (o + k) b) (by kernel_rfl) HL.out.drew (fun h0 => ?_)
                refine wpAnyH_takeAt (i := 0) (v := ?_) rfl (by kernel_rfl) (by kernel_rfl) (by kernel_rfl) (fun _ _ _ h => h) (Or.inl ⟨by rfl, ?_⟩) h0 ?_
                rotate_left 1
                · intro w' hS; have a3 := hS.cell; clear hS
                  go_simp <;> with_reducible rfl
                try simp only [Act.put, List.setIfInBounds_toArray, List.set_cons_zero, List.set_cons_succ]
                refine wpAnyH_takeAt (i := 1) (v := ?_) rfl (by kernel_rfl) (by kernel_rfl) (by kernel_rfl) (fun _ _ _ h => h) (Or.inl ⟨by rfl, ?_⟩) h0 ?_
                rotate_left 1
                · intro w' hS; have a3 := hS.cell; clear hS
                  go_simp <;> with_reducible rfl
                try simp only [Act.put, List.setIfInBounds_toArray, List.set_cons_zero, List.set_cons_succ]
                refine wpAnyH_takeAt (i := 2) (v := ?_) rfl (by kernel_rfl) (by kernel_rfl) (by kernel_rfl) (fun _ _ _ h => h) (Or.inl ⟨by rfl, ?_⟩) h0 ?_
                rotate_left 1
                · intro w' hS; have a3 := hS.cell; clear hS
                  go_simp <;> with_reducible rfl
                try simp only [Act.put, List.setIfInBounds_toArray, List.set_cons_zero, List.set_cons_succ]
                refine wpAnyH_takeAt (i := 3) (v := .agg (insC X)) rfl (by kernel_rfl) (by kernel_rfl) (by kernel_rfl) (fun _ _ _ h => h) (yieldsIf_row (by rfl) _ _ rfl gx rfl _ _ _ _ (fun _ h => h.rj.xb) Tryz.underlying38 rfl (insBox _)) h0 ?_
                simp only [Act.put, List.setIfInBounds_toArray, List.set_cons_zero, List.set_cons_succ]
                refine wpAnyH_ready (rs := [4]) (by kernel_rfl) (by simp) (allReady_at rfl (fun K hK => ?_))
                go_simp
                refine (HEn.out _).mono ?_
                rintro e w1 ⟨rfl, hb1⟩
                dsimp only
                have h1 : Rl w i (.slice p0 i.words.length q0) gx X g (o + k) b w1 := h0.ext hb1
                refine hK.out _ _ h1 (fun _ => ?_)
                clear hK K
                try simp only [Act.put, List.setIfInBounds_toArray, List.set_cons_zero, List.set_cons_succ]
                refine wpAnyH_takeAt (i := 5) (v := ?_) rfl (by kernel_rfl) (by kernel_rfl) (by kernel_rfl) (fun _ _ _ h => h) (Or.inl ⟨by rfl, ?_⟩) h1 ?_
                rotate_left 1
                · intro w' hS; have a3 := hS.cell; clear hS
                  go_simp <;> with_reducible rfl
                try simp only [Act.put, List.setIfInBounds_toArray, List.set_cons_zero, List.set_cons_succ]
                refine wpAnyH_takeAt (i := 6) (v := ?_) rfl (by kernel_rfl) (by kernel_rfl) (by kernel_rfl) (fun _ _ _ h => h) (Or.inl ⟨by rfl, ?_⟩) h1 ?_
                rotate_left 1
                · intro w' hS; have a3 := hS.cell; clear hS
                  go_simp <;> with_reducible rfl
                try simp only [Act.put, List.setIfInBounds_toArray, List.set_cons_zero, List.set_cons_succ]
                refine wpAnyH_takeAt (i := 7) (v := .agg (insC X)) rfl (by kernel_rfl) (by kernel_rfl) (by kernel_rfl) (fun _ _ _ h => h) (yieldsIf_row (by rfl) _ _ rfl gx rfl _ _ _ _ (fun _ h => h.rj.xb) Tryz.underlying38 rfl (insBox _)) h1 ?_
                simp only [Act.put, List.setIfInBounds_toArray, List.set_cons_zero, List.set_cons_succ]
                refine wpAnyH_takeAt (i := 8) (v := ?_) rfl (by kernel_rfl) (by kernel_rfl) (by kernel_rfl) (fun _ _ _ h => h) (Or.inl ⟨by rfl, ?_⟩) h1 ?_
                rotate_left 1
                · intro w' hS; have a3 := hS.cell; clear hS
                  go_simp <;> with_reducible rfl
                try simp only [Act.put, List.setIfInBounds_toArray, List.set_cons_zero, List.set_cons_succ]
                refine wpAnyH_takeAt (i := 9) (v := ?_) rfl (by kernel_rfl) (by kernel_rfl) (by kernel_rfl) (fun _ _ _ h => h) (Or.inl ⟨by rfl, ?_⟩) h1 ?_
                rotate_left 1
                · intro w' hS; have a3 := hS.cell; clear hS
                  go_simp <;> with_reducible rfl
                try simp only [Act.put, List.setIfInBounds_toArray, List.set_cons_zero, List.set_cons_succ]
                refine wpAnyH_takeAt (i := 10) (v := ?_) rfl (by kernel_rfl) (by kernel_rfl) (by kernel_rfl) (fun _ _ _ h => h) (Or.inl ⟨by rfl, ?_⟩) h1 ?_
                rotate_left 1
                · intro w' hS; have a3 := hS.cell; clear hS
                  go_simp <;> with_reducible rfl
                try simp only [Act.put, List.setIfInBounds_toArray, List.set_cons_zero, List.set_cons_succ]
                refine wpAnyH_takeAt (i := 11) (v := ?_) rfl (by kernel_rfl) (by kernel_rfl) (by kernel_rfl) (fun _ _ _ h => h) (Or.inl ⟨by rfl, ?_⟩) h1 ?_
                rotate_left 1
                · intro w' hS; have a3 := hS.cell; clear hS
                  go_simp <;> with_reducible rfl
                try simp only [Act.put, List.setIfInBounds_toArray, List.set_cons_zero, List.set_cons_succ]
                refine wpAnyH_takeAt (i := 13) (v := ?_) rfl (by kernel_rfl) (by kernel_rfl) (by kernel_rfl) (fun _ _ _ h => h) (Or.inl ⟨by rfl, ?_⟩) h1 ?_
                rotate_left 1
                · intro w' hS; have a3 := hS.cell; clear hS
                  go_simp <;> with_reducible rfl
                try simp only [Act.put, List.setIfInBounds_toArray, List.set_cons_zero, List.set_cons_succ]
                refine wpAnyH_ready (rs := [12]) (by kernel_rfl) (by simp) (allReady_at rfl (fun K hK => ?_))
                go_simp
                refine (HAf.out _).mono ?_
                rintro e w2 ⟨va, rfl, hAr, hb2⟩
                dsimp only
                have h2 : Rl w i (.slice p0 i.words.length q0) gx X g (o + k) b w2 := h1.ext hb2
                refine hK.out _ _ h2 (fun _ => ?_)
                clear hK K
                try simp only [Act.put, List.setIfInBounds_toArray, List.set_cons_zero, List.set_cons_succ]
                refine wpAnyH_ready (rs := [14]) (by kernel_rfl) (by simp) (allReady_at rfl (fun K hK => ?_))
                go_simp
                refine (has_any8 A va a (by omega) w2 (slw_of_owns hAr)).mono ?_
                rintro e w3 ⟨rfl, hw3⟩
                dsimp only
                have h3 : Rl w i (.slice p0 i.words.length q0) gx X g (o + k) b w3 := hw3 ▸ h2
                refine hK.out _ _ h3 (fun _ => ?_)
                clear hK K
                try simp only [Act.put, List.setIfInBounds_toArray, List.set_cons_zero, List.set_cons_succ]
                refine wpAnyH_takeAt (i := 15) (v := ?_) rfl (by kernel_rfl) (by kernel_rfl) (by kernel_rfl) (fun _ _ _ h => h) (Or.inl ⟨by rfl, ?_⟩) h3 ?_
                rotate_left 1
                · intro w' hS; have a3 := hS.cell; clear hS
                  go_simp <;> with_reducible rfl
                try simp only [Act.put, List.setIfInBounds_toArray, List.set_cons_zero, List.set_cons_succ]
                refine wpAnyH_done (by kernel_rfl) ?_ _
                refine NoPanic.normal ?_
                obtain ⟨hz, hhz⟩ : ∃ hz, hasL A a = hz := ⟨_, rfl⟩
                rw [hhz]
                have HHZ := hideE hhz
                clear hhz
                cases hz with
                | false =>
                  go_wp2_with fail
                  go_roundg q
                  case measure => omega
                  case rel => exact ⟨k + 1, by omega, by simp, by rw [HK2.out]; exact HHZ.out, by first | exact h2.rj.ri | exact h3.rj.ri⟩
                | true =>
                  have hT : Hid (ledK (txI i) L nL a = true) := by
                    show _ = _
                    have h := HK2.out
                    rw [HHZ.out] at h
                    exact ledK_mono (by omega) h
                  go_wp2_with fail
                  go_ret
                  exact ⟨retb (by rw [HA2.out, hT.out]; rfl), by first | exact h2.rj.ri.low | exact h3.rj.ri.low⟩
            · have heq : ((ER : Int) == 0) = false := beq_eq_false_iff_ne.2 (by omega)
              have HK2 : Hid (ledK (txI i) L (k + 1) a = false) := by show _ = _; rw [HK.out, decide_eq_false h0]; rfl
              clear h0
              go_wp2_with fail
              go_quiet (fail)
              go_wp2_with fail
              go_roundg q
              case measure => omega
              case rel => exact ⟨k + 1, by omega, by simp, HK2.out, H5.out.ext (drew_low _ _ _)⟩
end Go.Proofs.YtcffpmicencfpabGreat
