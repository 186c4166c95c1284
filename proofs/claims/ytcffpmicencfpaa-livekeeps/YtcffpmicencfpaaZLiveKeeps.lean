/-
  LiveKeeps: two machines that agree on what counts ahead of plain instructions agree, behind them, on what counts behind.
  The walk of LiveKeeps.
-/
import Derived.Test.YtcffpmicencfpaaRows
import Derived.WalkKit
import Derived.ProofKit
import Derived.OpenShut
import Derived.Carry
import Derived.ChangeMaps
import Derived.Test.YtcffpmicencfpaaZC1
import Derived.Test.YtcffpmicencfpaaZX6
import Derived.Test.YtcffpmicencfpaaZY5
import Derived.Test.YtcffpmicencfpaaZY6
import Derived.Test.YtcffpmicencfpaaZY8
import Derived.Test.YtcffpmicencfpaaZYu
import Derived.Test.YtcffpmicencfpaaZs
namespace Go.Proofs.Ytcffpmicencfpaa
open Go.RowKit Go.Lib Go.Sort Ip Bl Lv Pm Cp
set_option linter.unusedSimpArgs false
set_option linter.unusedVariables false

theorem two_run {W : World} {b : Nat} {a0 a1 : Value} {t : TypeId} (h : W.heap[b]? = some (.cells #[a0, a1] t (0, 0))) : W.cell? ⟨b, 0, none⟩ = some a0 ∧ W.cell? ⟨b, 1, none⟩ = some a1 := by
  unfold World.cell?; simp [h]
/-- While LiveKeeps is at work: both machines' boxes, its run's. -/
structure Kp (w : World) (c d : Mach) (v : Value) (b : BitVec 32) (W : World) : Prop where
  bc : Box 32 W w.heap.size c
  bd : Box 32 W (w.heap.size + 1) d
  br : W.heap[w.heap.size + 2]? = some (.cells #[v, .int .u32 (b.toNat : Int)] 34 (0, 0))
  low : Below w.heap.size w W
section
variable {w W W' : World} {c d : Mach} {v : Value} {b : BitVec 32}
theorem Kp.ext (h : Kp w c d v b W) (hb : Below W.heap.size W W') : Kp w c d v b W' := ⟨h.bc.below hb, h.bd.below hb, keptN hb h.br, h.low.trans (hb.mono h.low.size)⟩
theorem Kp.lt (h : Kp w c d v b W) : w.heap.size + 3 ≤ W.heap.size := (Array.getElem?_eq_some_iff.1 h.br).1
theorem Kp.new (w : World) (c d : Mach) (v : Value) (b : BitVec 32) : Kp w c d v b (((w.alloc (.cells (cells c) 32)).alloc (.cells (cells d) 32)).alloc (.cells #[v, .int .u32 (b.toNat : Int)] 34)) := by
  have h1 := Box.new (t := 32) w c
  have h2 := Box.new (t := 32) (w.alloc (.cells (cells c) 32)) d
  have h3 := heap_alloc_new ((w.alloc (.cells (cells c) 32)).alloc (.cells (cells d) 32)) (.cells #[v, .int .u32 (b.toNat : Int)] 34)
  rw [World.size_alloc] at h2
  rw [World.size_alloc, World.size_alloc] at h3
  exact ⟨(h1.alloc _).alloc _, h2.alloc _, h3, (((Below.refl _ w).alloc (Nat.le_refl _) _).alloc (by simp) _).alloc (by simp; omega) _⟩
theorem Kp.setd (h : Kp w c d v b W) (r : Nat) (hr : r < 32) (z : BitVec 32) : Kp w c (sx d r z) v b (W.setCell ⟨w.heap.size + 1, r, none⟩ (.int .u32 (z.toNat : Int))) :=
  ⟨h.bc.other _ _ (by simp), h.bd.setx r hr z, by rw [heap_setCell_other _ _ _ _ (by simp)]; exact h.br, below_cell1 h.low (by omega) _ _⟩
theorem Kp.setp (h : Kp w c d v b W) (z : BitVec 32) : Kp w c (sp d z) v b (W.setCell ⟨w.heap.size + 1, 32, none⟩ (.int .u32 (z.toNat : Int))) :=
  ⟨h.bc.other _ _ (by simp), h.bd.setp z, by rw [heap_setCell_other _ _ _ _ (by simp)]; exact h.br, below_cell1 h.low (by omega) _ _⟩
theorem Kp.rowc (h : Kp w c d v b W) (c' : Mach) : Kp w c' d v b (W.setRow w.heap.size (cells c')) :=
  ⟨h.bc.setRow c', h.bd.otherRow _ _ (by omega), by rw [setRow_other _ _ _ _ (by omega)]; exact h.br, below_row h.low (by omega) _⟩
theorem Kp.rowd (h : Kp w c d v b W) (d' : Mach) : Kp w c d' v b (W.setRow (w.heap.size + 1) (cells d')) :=
  ⟨h.bc.otherRow _ _ (by omega), h.bd.setRow d', by rw [setRow_other _ _ _ _ (by omega)]; exact h.br, below_row h.low (by omega) _⟩
theorem Kp.row (h : Kp w c d v b W) {g : Nat} (hg : w.heap.size + 3 ≤ g) (cs : Array Value) : Kp w c d v b (W.setRow g cs) :=
  ⟨h.bc.otherRow _ _ (by omega), h.bd.otherRow _ _ (by omega), by rw [setRow_other _ _ _ _ (by omega)]; exact h.br, below_row h.low (by omega) _⟩
end
set_option maxHeartbeats 4000000 in
set_option maxRecDepth 100000 in
theorem liveKeeps_walk (HL : LvAll) (c d : Mach) (pa : Option Addr) (ca : Nat) (la : List Ins) (b : BitVec 32) (w : World)
    (hsa : SlN w (.slice pa la.length ca) la) (hca : la.length ≤ ca) (_ : ca ≤ 9223372036854775807) (nila : ∀ n c, Value.slice pa la.length ca = .slice none n c → c = 0) :
    Calls Try.prog 4 #[.agg (cells c), .agg (cells d), .agg #[.slice pa la.length ca, .int .u32 (b.toNat : Int)]] w fun e w' => e = .returned (.bool true) ∧ Below w.heap.size w w' := by
  obtain ⟨na, hna⟩ : ∃ n, la.length = n := ⟨_, rfl⟩
  obtain ⟨ka, hka⟩ : ∃ k, min na 40 = k := ⟨_, rfl⟩
  rw [hna] at hsa hca nila ⊢
  have hmina : min (na : Int) 40 = (ka : Int) := by omega
  have hkca : (ka : Int) ≤ (ca : Int) := by omega
  have hcuta := hsa.cut ka (by omega)
  have hAl : (la.take ka).length = ka := by rw [List.length_take]; omega
  obtain ⟨A, hA⟩ : ∃ A, la.take ka = A := ⟨_, rfl⟩
  rw [hA] at hcuta hAl
  have hk40 : ka ≤ 40 := by omega
  obtain ⟨N, hN⟩ : ∃ N, backB A b = N := ⟨_, rfl⟩
  have HBK : Hid (∀ W, SlN W (.slice pa ka ca) A → Calls Try.prog 12 #[.slice pa ka ca, .int .u32 (b.toNat : Int)] W fun e w' => e = .returned (.int .u32 (N.toNat : Int)) ∧ Below W.heap.size W w') := hideE (fun W hW => by have h := HL.back A (.slice pa ka ca) b (by omega) W hW; rw [hN] at h; exact h)
  have h0 := Kp.new w c d (.slice pa na ca) b
  have m0 := (two_run h0.br).1
  have m1 := (two_run h0.br).2
  have H0 := hideE h0
  have HSN := hideE hcuta
  have HAL := hideE hAl
  have HN := hideE hN
  have HLL := hideE HL
  clear hsa nila hcuta hA hAl hna hka HL hN h0
  go_enter Try.func4, Try.ntmps4
  go_upto_region 3 with (go_at_call 12; refine (HBK.out _ (HSN.out.below H0.out.low)).mono ?_; rintro e w1 ⟨rfl, hb1⟩)
  refine gen_world (Kp w c d (.slice pa na ca) b) (H0.out.ext hb1) ?_
  clear H0 m0 m1 HBK hb1
  intro W1 h1
  go_upto_region 4 with fail
  go_loopg [9] 32 (fun q j W => ∃ (r : Nat) (d' : Mach), r + q = 32 ∧ j = .int .i64 (r : Int) ∧ (∀ k, k < r → N.getLsbD k = true → c.x k = d'.x k) ∧ Kp w c d' (.slice pa na ca) b W)
  case atStart => exact ⟨0, d, by omega, rfl, fun k hk => absurd hk (Nat.not_lt_zero k), h1⟩
  case round =>
    clear h1
    obtain ⟨r, d', hrq, rfl, hag, h2⟩ := hrel
    have HAG := hideE hag
    clear hag
    cases gk with
    | succ q =>
      have hr : (r : Int) < 32 := by omega
      have hr0 : (0 : Int) ≤ (r : Int) := by omega
      have hwr : IntKind.i64.wrap ((r : Int) + 1) = (r : Int) + 1 := wrE (by omega) (by omega)
      have e1 : wr.cell? ⟨w.heap.size, r, none⟩ = some (.int .u32 ((c.x r).toNat : Int)) := h2.bc.reg r (by omega)
      have e2 : wr.cell? ⟨w.heap.size + 1, r, none⟩ = some (.int .u32 ((d'.x r).toNat : Int)) := h2.bd.reg r (by omega)
      have f2 := h2.bd.free r
      obtain ⟨Y, hY, hA⟩ := bit_ask N r
      by_cases hb : N.getLsbD r = true
      · rw [if_pos hb] at hA
        have HS := hideE (h2.setd r (by omega) (c.x r))
        have HG : Hid (∀ k, k < r + 1 → N.getLsbD k = true → c.x k = (sx d' r (c.x r)).x k) := hideE (fun k hk hn => by
          by_cases e : k = r
          · rw [e, sx_self]
          · rw [sx_other _ _ _ e]; exact HAG.out k (by omega) hn)
        clear h2 hb
        go_wp2_with fail
        go_roundg q
        case measure => omega
        case rel => exact ⟨r + 1, _, by omega, by simp, HG.out, HS.out⟩
      · rw [if_neg hb] at hA
        have H2 := hideE h2
        have HG : Hid (∀ k, k < r + 1 → N.getLsbD k = true → c.x k = d'.x k) := hideE (fun k hk hn => by
          by_cases e : k = r
          · rw [e] at hn; exact absurd hn hb
          · exact HAG.out k (by omega) hn)
        clear h2 hb
        go_wp2_with fail
        go_roundg q
        case measure => omega
        case rel => exact ⟨r + 1, _, by omega, by simp, HG.out, H2.out⟩
    | zero =>
      obtain rfl : r = 32 := by omega
      have hag : Agr c (sp d' c.pc) (backB (A.drop 0) b) := by
        refine keeps_start rfl (fun r hr hb => ?_)
        have e : backB (A.drop 0) b = N := HN.out
        rw [e] at hb
        exact HAG.out r hr hb
      have HAR := hideE hag
      have e1 := h2.bc.at
      have e2 := h2.bd.at
      have f2 := h2.bd.free 32
      have h3 := h2.setp c.pc
      have H3 := hideE h3
      clear hag h2 h3 HAG
      go_upto_region 9 with fail
      refine gen_world (Kp w c (sp d' c.pc) (.slice pa na ca) b) H3.out ?_
      clear H3 e1 e2 f2
      intro W2 h4
      go_upto_region 10 with fail
      go_loopg [10] ka (fun q j W => ∃ (i : Nat) (c' d' : Mach), i + q = ka ∧ j = .int .i64 (i : Int) ∧ Agr c' d' (backB (A.drop i) b) ∧ Kp w c' d' (.slice pa na ca) b W)
      case atStart => exact ⟨0, _, _, by omega, rfl, HAR.out, h4⟩
      case round =>
        clear h4 HAR
        obtain ⟨i, c', d'', hiq, rfl, hag, h5⟩ := hrel
        cases gk with
        | zero =>
          obtain rfl : i = ka := by omega
          have hki : ¬ ((i : Int) < (i : Int)) := by omega
          rw [List.drop_of_length_le (by rw [HAL.out]; exact Nat.le_refl _), back_nil] at hag
          have hev : evenB b = b &&& allB := by unfold evenB allB; rfl
          obtain ⟨E, hE⟩ : ∃ E, evenB b = E := ⟨_, rfl⟩
          have hand : bits .and .u32 (b.toNat : Int) 4294967294 = (E.toNat : Int) := by
            have h := Wd.and_ b allB
            rw [← hev, hE] at h
            exact h
          rw [hE] at hag
          have m1 := (two_run h5.br).2
          have HAY := hideE (fun W => agree_any c' d'' E hag W)
          have hbc := h5.bc
          have hbd := h5.bd
          have hlow := h5.low
          clear hag hev hE h5
          go_wp2_with (first
            | (refine wpList_load_row rfl 32 _ rfl w.heap.size rfl _ _ _ _ hbc Try.underlying32 rfl (infoCs _) ?_)
            | (refine wpList_load_row rfl 32 _ rfl (w.heap.size + 1) rfl _ _ _ _ hbd Try.underlying32 rfl (infoCs _) ?_)
            | (go_at_call 15; refine (HAY.out _).mono ?_; rintro e w8 ⟨rfl, hb8⟩)
            | (go_at_call 7; refine (fixed9_any HLL.out _).mono ?_; rintro e w9 ⟨rfl, hb9⟩))
          go_ret
          have hl8 := hlow.trans (hb8.mono hlow.size)
          exact ⟨rfl, hl8.trans (hb9.mono hl8.size)⟩
        | succ q =>
          have hki : (i : Int) < (ka : Int) := by omega
          have hi0 : (0 : Int) ≤ (i : Int) := by omega
          have hwi : IntKind.i64.wrap ((i : Int) + 1) = (i : Int) + 1 := wrE (by omega) (by omega)
          obtain ⟨X, hx⟩ : ∃ X, A[i]? = some X := ⟨A[i]'(by rw [HAL.out]; omega), List.getElem?_eq_getElem (by rw [HAL.out]; omega)⟩
          rw [keeps_drop b hx] at hag
          have hko : dB X = true → Agr (dM c' X) (dM d'' X) (backB (A.drop (i + 1)) b) := fun hd => keeps_one hd hag
          obtain ⟨g, o, rfl⟩ := HSN.out.get hx
          obtain ⟨op, rd, rs1, rs2, imm⟩ := X
          obtain ⟨M1, hM1⟩ : ∃ M, dM c' ⟨op, rd, rs1, rs2, imm⟩ = M := ⟨_, rfl⟩
          obtain ⟨M2, hM2⟩ : ∃ M, dM d'' ⟨op, rd, rs1, rs2, imm⟩ = M := ⟨_, rfl⟩
          obtain ⟨bb, hbb⟩ : ∃ B, dB ⟨op, rd, rs1, rs2, imm⟩ = B := ⟨_, rfl⟩
          have HD1 := hideE (fun W => by
            have h := rdoes_any4 c' op rd rs1 rs2 imm W
            rw [show doesM c' op rd rs1 rs2 imm = M1 from hM1, show doesB op rd rs1 rs2 imm = bb from hbb] at h
            exact h)
          have HD2 := hideE (fun W => by
            have h := rdoes_any4 d'' op rd rs1 rs2 imm W
            rw [show doesM d'' op rd rs1 rs2 imm = M2 from hM2, show doesB op rd rs1 rs2 imm = bb from hbb] at h
            exact h)
          rw [hM1, hM2, hbb] at hko
          have HKO := hideE hko
          have HX := hideE hx
          have hz := zeroC
          refine gen_world (Kp w c' d'' (.slice (some ⟨g, o, none⟩) na ca) b) h5 ?_
          clear hx hko hM1 hM2 hbb hag h5
          intro W5 h5
          have H5 := hideE h5
          clear h5
          go_upto_region 12 with fail
          go_cut [11, 12] (fun s11 s12 W => ∃ gx, s11 = .pointer (some ⟨gx, 0, none⟩) ∧ s12 = .bool bb ∧ Kp w c' d'' (.slice (some ⟨g, o, none⟩) na ca) b W ∧ Box 32 W gx M1 ∧ w.heap.size + 3 ≤ gx)
          case first =>
            refine wp_region_noPanic ?_
            refine wp_region_held_drew (S := (Kp w c' d'' (.slice (some ⟨g, o, none⟩) na ca) b)) (by kernel_rfl) (H5.out.ext (Below.refl _ _).drew) (fun h0 => ?_)
            refine wpAnyH_takeAt (i := 0) (v := .agg (cells c')) rfl (by kernel_rfl) (by kernel_rfl) (by kernel_rfl) (fun _ _ _ h => h) (yieldsIf_row (by rfl) _ _ rfl w.heap.size rfl _ _ _ _ (fun _ h => h.bc) Try.underlying32 rfl (infoCs _)) h0 ?_
            simp only [Act.put, List.setIfInBounds_toArray, List.set_cons_zero, List.set_cons_succ]
            refine wpAnyH_takeAt (i := 1) (v := ?_) rfl (by kernel_rfl) (by kernel_rfl) (by kernel_rfl) (fun _ _ _ h => h) (Or.inl ⟨by rfl, ?_⟩) h0 ?_
            rotate_left 1
            · intro w' hS; clear hS
              go_simp <;> with_reducible rfl
            try simp only [Act.put, List.setIfInBounds_toArray, List.set_cons_zero, List.set_cons_succ]
            refine wpAnyH_takeAt (i := 2) (v := ?_) rfl (by kernel_rfl) (by kernel_rfl) (by kernel_rfl) (fun _ _ _ h => h) (Or.inl ⟨by rfl, ?_⟩) h0 ?_
            rotate_left 1
            · intro w' hS; clear hS
              go_simp <;> with_reducible rfl
            try simp only [Act.put, List.setIfInBounds_toArray, List.set_cons_zero, List.set_cons_succ]
            refine wpAnyH_takeAt (i := 3) (v := ?_) rfl (by kernel_rfl) (by kernel_rfl) (by kernel_rfl) (fun _ _ _ h => h) (Or.inl ⟨by rfl, ?_⟩) h0 ?_
            rotate_left 1
            · intro w' hS; clear hS
              go_simp <;> with_reducible rfl
            try simp only [Act.put, List.setIfInBounds_toArray, List.set_cons_zero, List.set_cons_succ]
            refine wpAnyH_takeAt (i := 4) (v := ?_) rfl (by kernel_rfl) (by kernel_rfl) (by kernel_rfl) (fun _ _ _ h => h) (Or.inl ⟨by rfl, ?_⟩) h0 ?_
            rotate_left 1
            · intro w' hS; have hq := (HSN.out.below hS.low).five HX.out; obtain ⟨q0, q1, q2, q3, q4⟩ := hq; clear hS
              go_simp <;> with_reducible rfl
            try simp only [Act.put, List.setIfInBounds_toArray, List.set_cons_zero, List.set_cons_succ]
            refine wpAnyH_ready (rs := [5, 9]) (by kernel_rfl) (by simp) (AllReadyH.cons (at_drop rfl) (fun K hK => ?_) (allReady_at rfl (fun K hK => ?_)))
            · go_simp
              refine (HD1.out _).mono ?_
              rintro e w5 ⟨rfl, hb5⟩
              dsimp only
              have h1 : (Kp w c' d'' (.slice (some ⟨g, o, none⟩) na ca) b) w5 := h0.ext hb5
              refine hK.out _ _ h1 (fun _ => ?_)
              clear hK K
              try simp only [Act.put, List.setIfInBounds_toArray, List.set_cons_zero, List.set_cons_succ]
              refine wpAnyH_takeAt (i := 6) (v := ?_) rfl (by kernel_rfl) (by kernel_rfl) (by kernel_rfl) (fun _ _ _ h => h) (Or.inl ⟨by rfl, ?_⟩) h1 ?_
              rotate_left 1
              · intro w' hS; clear hS
                go_simp <;> with_reducible rfl
              try simp only [Act.put, List.setIfInBounds_toArray, List.set_cons_zero, List.set_cons_succ]
              refine wpAnyH_takeAt (i := 7) (v := ?_) rfl (by kernel_rfl) (by kernel_rfl) (by kernel_rfl) (fun _ _ _ h => h) (Or.inl ⟨by rfl, ?_⟩) h1 ?_
              rotate_left 1
              · intro w' hS; clear hS
                go_simp <;> with_reducible rfl
              try simp only [Act.put, List.setIfInBounds_toArray, List.set_cons_zero, List.set_cons_succ]
              refine wpAnyH_takeAt (i := 8) (v := ?_) rfl (by kernel_rfl) (by kernel_rfl) (by kernel_rfl) (fun _ _ _ h => h) (Or.inl ⟨by rfl, ?_⟩) h1 ?_
              rotate_left 1
              · intro w' hS; clear hS
                go_simp <;> with_reducible rfl
              try simp only [Act.put, List.setIfInBounds_toArray, List.set_cons_zero, List.set_cons_succ]
              refine wpAnyH_ready (rs := [9]) (by kernel_rfl) (by simp) (allReady_at rfl (fun K hK => ?_))
              go_simp
              have n9 : Below w5.heap.size w5 (w5.alloc (.cells (cells nought) 32)) := (Below.refl _ _).alloc (Nat.le_refl _) _
              have hsz := h1.lt
              have h2 : (Kp w c' d'' (.slice (some ⟨g, o, none⟩) na ca) b) (w5.alloc (.cells (cells nought) 32)) := h1.ext n9
              refine hK.out _ _ h2 (fun _ => ?_)
              clear hK K
              try simp only [Act.put, List.setIfInBounds_toArray, List.set_cons_zero, List.set_cons_succ]
              refine wpAnyH_ready (rs := [10]) (by kernel_rfl) (by simp) (allReady_at rfl (fun K hK => ?_))
              rw [if_pos (by rfl)]
              refine wp_store_row 32 _ _ rfl w5.heap.size (cells M1) rfl rfl _ _ (Box.new (t := 32) w5 nought) (infoCs _) (cells_same _ _) (cells_one _) ?_
              have nn : Below w5.heap.size w5 ((w5.alloc (.cells (cells nought) 32)).setRow w5.heap.size (cells M1)) := below_row ((Below.refl _ _).alloc (Nat.le_refl _) _) (Nat.le_refl _) _
              have bE := (Box.new (t := 32) w5 nought).setRow M1
              have h3 : (Kp w c' d'' (.slice (some ⟨g, o, none⟩) na ca) b) ((w5.alloc (.cells (cells nought) 32)).setRow w5.heap.size (cells M1)) := h1.ext nn
              refine hK.out _ _ h3 (fun _ => ?_)
              clear hK K
              try simp only [Act.put, List.setIfInBounds_toArray, List.set_cons_zero, List.set_cons_succ]
              refine wpAnyH_takeAt (i := 11) (v := ?_) rfl (by kernel_rfl) (by kernel_rfl) (by kernel_rfl) (fun _ _ _ h => h) (Or.inl ⟨by rfl, ?_⟩) h3 ?_
              rotate_left 1
              · intro w' hS; clear hS
                go_simp <;> with_reducible rfl
              try simp only [Act.put, List.setIfInBounds_toArray, List.set_cons_zero, List.set_cons_succ]
              refine wpAnyH_done (by kernel_rfl) ?_ _
              refine NoPanic.normal ?_
              go_wp2_with fail
              go_meet
              case rel => exact ⟨_, rfl, rfl, h3, bE, hsz⟩
            · go_simp
              have n9 : Below W5.drew.heap.size W5.drew (W5.drew.alloc (.cells (cells nought) 32)) := (Below.refl _ _).alloc (Nat.le_refl _) _
              have hsz := h0.lt
              have bN := Box.new (t := 32) W5.drew nought
              have h1 : (Kp w c' d'' (.slice (some ⟨g, o, none⟩) na ca) b) (W5.drew.alloc (.cells (cells nought) 32)) := h0.ext n9
              refine hK.out _ _ h1 (fun _ => ?_)
              clear hK K
              try simp only [Act.put, List.setIfInBounds_toArray, List.set_cons_zero, List.set_cons_succ]
              refine wpAnyH_ready (rs := [5]) (by kernel_rfl) (by simp) (allReady_at rfl (fun K hK => ?_))
              go_simp
              refine (HD1.out _).mono ?_
              rintro e w5 ⟨rfl, hb5⟩
              dsimp only
              have bM := bN.below hb5
              have h2 : (Kp w c' d'' (.slice (some ⟨g, o, none⟩) na ca) b) w5 := h1.ext hb5
              refine hK.out _ _ h2 (fun _ => ?_)
              clear hK K
              try simp only [Act.put, List.setIfInBounds_toArray, List.set_cons_zero, List.set_cons_succ]
              refine wpAnyH_takeAt (i := 6) (v := ?_) rfl (by kernel_rfl) (by kernel_rfl) (by kernel_rfl) (fun _ _ _ h => h) (Or.inl ⟨by rfl, ?_⟩) h2 ?_
              rotate_left 1
              · intro w' hS; clear hS
                go_simp <;> with_reducible rfl
              try simp only [Act.put, List.setIfInBounds_toArray, List.set_cons_zero, List.set_cons_succ]
              refine wpAnyH_takeAt (i := 7) (v := ?_) rfl (by kernel_rfl) (by kernel_rfl) (by kernel_rfl) (fun _ _ _ h => h) (Or.inl ⟨by rfl, ?_⟩) h2 ?_
              rotate_left 1
              · intro w' hS; clear hS
                go_simp <;> with_reducible rfl
              try simp only [Act.put, List.setIfInBounds_toArray, List.set_cons_zero, List.set_cons_succ]
              refine wpAnyH_takeAt (i := 8) (v := ?_) rfl (by kernel_rfl) (by kernel_rfl) (by kernel_rfl) (fun _ _ _ h => h) (Or.inl ⟨by rfl, ?_⟩) h2 ?_
              rotate_left 1
              · intro w' hS; clear hS
                go_simp <;> with_reducible rfl
              try simp only [Act.put, List.setIfInBounds_toArray, List.set_cons_zero, List.set_cons_succ]
              refine wpAnyH_ready (rs := [10]) (by kernel_rfl) (by simp) (allReady_at rfl (fun K hK => ?_))
              rw [if_pos (by rfl)]
              refine wp_store_row 32 _ _ rfl W5.heap.size (cells M1) rfl rfl _ _ bM (infoCs _) (cells_same _ _) (cells_one _) ?_
              have bE := bM.setRow M1
              have h3 : (Kp w c' d'' (.slice (some ⟨g, o, none⟩) na ca) b) (w5.setRow W5.heap.size (cells M1)) := h2.row hsz _
              refine hK.out _ _ h3 (fun _ => ?_)
              clear hK K
              try simp only [Act.put, List.setIfInBounds_toArray, List.set_cons_zero, List.set_cons_succ]
              refine wpAnyH_takeAt (i := 11) (v := ?_) rfl (by kernel_rfl) (by kernel_rfl) (by kernel_rfl) (fun _ _ _ h => h) (Or.inl ⟨by rfl, ?_⟩) h3 ?_
              rotate_left 1
              · intro w' hS; clear hS
                go_simp <;> with_reducible rfl
              try simp only [Act.put, List.setIfInBounds_toArray, List.set_cons_zero, List.set_cons_succ]
              refine wpAnyH_done (by kernel_rfl) ?_ _
              refine NoPanic.normal ?_
              go_wp2_with fail
              go_meet
              case rel => exact ⟨_, rfl, rfl, h3, bE, hsz⟩
          case rest =>
            clear H5 HD1
            obtain ⟨gx, rfl, rfl, h6, hbx, hgx⟩ := hcut
            refine gen_world (fun W => Kp w c' d'' (.slice (some ⟨g, o, none⟩) na ca) b W ∧ Box 32 W gx M1) ⟨h6, hbx⟩ ?_
            clear h6 hbx
            rintro W6 ⟨h6, hbx⟩
            have H6 := hideE h6
            have HBX := hideE hbx
            clear h6 hbx
            go_upto_region 13 with fail
            go_cut [13, 14] (fun s13 s14 W => ∃ gy, s13 = .pointer (some ⟨gy, 0, none⟩) ∧ s14 = .bool bb ∧ Kp w c' d'' (.slice (some ⟨g, o, none⟩) na ca) b W ∧ Box 32 W gx M1 ∧ Box 32 W gy M2 ∧ w.heap.size + 3 ≤ gy)
            case first =>
              refine wp_region_noPanic ?_
              refine wp_region_held_drew (S := (fun W => Kp w c' d'' (.slice (some ⟨g, o, none⟩) na ca) b W ∧ Box 32 W gx M1)) (by kernel_rfl) (⟨H6.out.ext (Below.refl _ _).drew, HBX.out.below (Below.refl _ _).drew⟩) (fun h0 => ?_)
              refine wpAnyH_takeAt (i := 0) (v := .agg (cells d'')) rfl (by kernel_rfl) (by kernel_rfl) (by kernel_rfl) (fun _ _ _ h => h) (yieldsIf_row (by rfl) _ _ rfl (w.heap.size + 1) rfl _ _ _ _ (fun _ h => h.1.bd) Try.underlying32 rfl (infoCs _)) h0 ?_
              simp only [Act.put, List.setIfInBounds_toArray, List.set_cons_zero, List.set_cons_succ]
              refine wpAnyH_takeAt (i := 1) (v := ?_) rfl (by kernel_rfl) (by kernel_rfl) (by kernel_rfl) (fun _ _ _ h => h) (Or.inl ⟨by rfl, ?_⟩) h0 ?_
              rotate_left 1
              · intro w' hS; clear hS
                go_simp <;> with_reducible rfl
              try simp only [Act.put, List.setIfInBounds_toArray, List.set_cons_zero, List.set_cons_succ]
              refine wpAnyH_takeAt (i := 2) (v := ?_) rfl (by kernel_rfl) (by kernel_rfl) (by kernel_rfl) (fun _ _ _ h => h) (Or.inl ⟨by rfl, ?_⟩) h0 ?_
              rotate_left 1
              · intro w' hS; clear hS
                go_simp <;> with_reducible rfl
              try simp only [Act.put, List.setIfInBounds_toArray, List.set_cons_zero, List.set_cons_succ]
              refine wpAnyH_takeAt (i := 3) (v := ?_) rfl (by kernel_rfl) (by kernel_rfl) (by kernel_rfl) (fun _ _ _ h => h) (Or.inl ⟨by rfl, ?_⟩) h0 ?_
              rotate_left 1
              · intro w' hS; clear hS
                go_simp <;> with_reducible rfl
              try simp only [Act.put, List.setIfInBounds_toArray, List.set_cons_zero, List.set_cons_succ]
              refine wpAnyH_takeAt (i := 4) (v := ?_) rfl (by kernel_rfl) (by kernel_rfl) (by kernel_rfl) (fun _ _ _ h => h) (Or.inl ⟨by rfl, ?_⟩) h0 ?_
              rotate_left 1
              · intro w' hS; have hq := (HSN.out.below hS.1.low).five HX.out; obtain ⟨q0, q1, q2, q3, q4⟩ := hq; clear hS
                go_simp <;> with_reducible rfl
              try simp only [Act.put, List.setIfInBounds_toArray, List.set_cons_zero, List.set_cons_succ]
              refine wpAnyH_ready (rs := [5, 9]) (by kernel_rfl) (by simp) (AllReadyH.cons (at_drop rfl) (fun K hK => ?_) (allReady_at rfl (fun K hK => ?_)))
              · go_simp
                refine (HD2.out _).mono ?_
                rintro e w5 ⟨rfl, hb5⟩
                dsimp only
                have h1 : (fun W => Kp w c' d'' (.slice (some ⟨g, o, none⟩) na ca) b W ∧ Box 32 W gx M1) w5 := ⟨h0.1.ext hb5, h0.2.below hb5⟩
                refine hK.out _ _ h1 (fun _ => ?_)
                clear hK K
                try simp only [Act.put, List.setIfInBounds_toArray, List.set_cons_zero, List.set_cons_succ]
                refine wpAnyH_takeAt (i := 6) (v := ?_) rfl (by kernel_rfl) (by kernel_rfl) (by kernel_rfl) (fun _ _ _ h => h) (Or.inl ⟨by rfl, ?_⟩) h1 ?_
                rotate_left 1
                · intro w' hS; clear hS
                  go_simp <;> with_reducible rfl
                try simp only [Act.put, List.setIfInBounds_toArray, List.set_cons_zero, List.set_cons_succ]
                refine wpAnyH_takeAt (i := 7) (v := ?_) rfl (by kernel_rfl) (by kernel_rfl) (by kernel_rfl) (fun _ _ _ h => h) (Or.inl ⟨by rfl, ?_⟩) h1 ?_
                rotate_left 1
                · intro w' hS; clear hS
                  go_simp <;> with_reducible rfl
                try simp only [Act.put, List.setIfInBounds_toArray, List.set_cons_zero, List.set_cons_succ]
                refine wpAnyH_takeAt (i := 8) (v := ?_) rfl (by kernel_rfl) (by kernel_rfl) (by kernel_rfl) (fun _ _ _ h => h) (Or.inl ⟨by rfl, ?_⟩) h1 ?_
                rotate_left 1
                · intro w' hS; clear hS
                  go_simp <;> with_reducible rfl
                try simp only [Act.put, List.setIfInBounds_toArray, List.set_cons_zero, List.set_cons_succ]
                refine wpAnyH_ready (rs := [9]) (by kernel_rfl) (by simp) (allReady_at rfl (fun K hK => ?_))
                go_simp
                have n9 : Below w5.heap.size w5 (w5.alloc (.cells (cells nought) 32)) := (Below.refl _ _).alloc (Nat.le_refl _) _
                have hsz := h1.1.lt
                have h2 : (fun W => Kp w c' d'' (.slice (some ⟨g, o, none⟩) na ca) b W ∧ Box 32 W gx M1) (w5.alloc (.cells (cells nought) 32)) := ⟨h1.1.ext n9, h1.2.below n9⟩
                refine hK.out _ _ h2 (fun _ => ?_)
                clear hK K
                try simp only [Act.put, List.setIfInBounds_toArray, List.set_cons_zero, List.set_cons_succ]
                refine wpAnyH_ready (rs := [10]) (by kernel_rfl) (by simp) (allReady_at rfl (fun K hK => ?_))
                rw [if_pos (by rfl)]
                refine wp_store_row 32 _ _ rfl w5.heap.size (cells M2) rfl rfl _ _ (Box.new (t := 32) w5 nought) (infoCs _) (cells_same _ _) (cells_one _) ?_
                have nn : Below w5.heap.size w5 ((w5.alloc (.cells (cells nought) 32)).setRow w5.heap.size (cells M2)) := below_row ((Below.refl _ _).alloc (Nat.le_refl _) _) (Nat.le_refl _) _
                have bE := (Box.new (t := 32) w5 nought).setRow M2
                have h3 : (fun W => Kp w c' d'' (.slice (some ⟨g, o, none⟩) na ca) b W ∧ Box 32 W gx M1) ((w5.alloc (.cells (cells nought) 32)).setRow w5.heap.size (cells M2)) := ⟨h1.1.ext nn, h1.2.below nn⟩
                refine hK.out _ _ h3 (fun _ => ?_)
                clear hK K
                try simp only [Act.put, List.setIfInBounds_toArray, List.set_cons_zero, List.set_cons_succ]
                refine wpAnyH_takeAt (i := 11) (v := ?_) rfl (by kernel_rfl) (by kernel_rfl) (by kernel_rfl) (fun _ _ _ h => h) (Or.inl ⟨by rfl, ?_⟩) h3 ?_
                rotate_left 1
                · intro w' hS; clear hS
                  go_simp <;> with_reducible rfl
                try simp only [Act.put, List.setIfInBounds_toArray, List.set_cons_zero, List.set_cons_succ]
                refine wpAnyH_done (by kernel_rfl) ?_ _
                refine NoPanic.normal ?_
                go_wp2_with fail
                go_meet
                case rel => exact ⟨_, rfl, rfl, h3.1, h3.2, bE, hsz⟩
              · go_simp
                have n9 : Below W6.drew.heap.size W6.drew (W6.drew.alloc (.cells (cells nought) 32)) := (Below.refl _ _).alloc (Nat.le_refl _) _
                have hsz := h0.1.lt
                have bN := Box.new (t := 32) W6.drew nought
                have h1 : (fun W => Kp w c' d'' (.slice (some ⟨g, o, none⟩) na ca) b W ∧ Box 32 W gx M1) (W6.drew.alloc (.cells (cells nought) 32)) := ⟨h0.1.ext n9, h0.2.below n9⟩
                refine hK.out _ _ h1 (fun _ => ?_)
                clear hK K
                try simp only [Act.put, List.setIfInBounds_toArray, List.set_cons_zero, List.set_cons_succ]
                refine wpAnyH_ready (rs := [5]) (by kernel_rfl) (by simp) (allReady_at rfl (fun K hK => ?_))
                go_simp
                refine (HD2.out _).mono ?_
                rintro e w5 ⟨rfl, hb5⟩
                dsimp only
                have bM := bN.below hb5
                have h2 : (fun W => Kp w c' d'' (.slice (some ⟨g, o, none⟩) na ca) b W ∧ Box 32 W gx M1) w5 := ⟨h1.1.ext hb5, h1.2.below hb5⟩
                refine hK.out _ _ h2 (fun _ => ?_)
                clear hK K
                try simp only [Act.put, List.setIfInBounds_toArray, List.set_cons_zero, List.set_cons_succ]
                refine wpAnyH_takeAt (i := 6) (v := ?_) rfl (by kernel_rfl) (by kernel_rfl) (by kernel_rfl) (fun _ _ _ h => h) (Or.inl ⟨by rfl, ?_⟩) h2 ?_
                rotate_left 1
                · intro w' hS; clear hS
                  go_simp <;> with_reducible rfl
                try simp only [Act.put, List.setIfInBounds_toArray, List.set_cons_zero, List.set_cons_succ]
                refine wpAnyH_takeAt (i := 7) (v := ?_) rfl (by kernel_rfl) (by kernel_rfl) (by kernel_rfl) (fun _ _ _ h => h) (Or.inl ⟨by rfl, ?_⟩) h2 ?_
                rotate_left 1
                · intro w' hS; clear hS
                  go_simp <;> with_reducible rfl
                try simp only [Act.put, List.setIfInBounds_toArray, List.set_cons_zero, List.set_cons_succ]
                refine wpAnyH_takeAt (i := 8) (v := ?_) rfl (by kernel_rfl) (by kernel_rfl) (by kernel_rfl) (fun _ _ _ h => h) (Or.inl ⟨by rfl, ?_⟩) h2 ?_
                rotate_left 1
                · intro w' hS; clear hS
                  go_simp <;> with_reducible rfl
                try simp only [Act.put, List.setIfInBounds_toArray, List.set_cons_zero, List.set_cons_succ]
                refine wpAnyH_ready (rs := [10]) (by kernel_rfl) (by simp) (allReady_at rfl (fun K hK => ?_))
                rw [if_pos (by rfl)]
                refine wp_store_row 32 _ _ rfl W6.heap.size (cells M2) rfl rfl _ _ bM (infoCs _) (cells_same _ _) (cells_one _) ?_
                have bE := bM.setRow M2
                have h3 : (fun W => Kp w c' d'' (.slice (some ⟨g, o, none⟩) na ca) b W ∧ Box 32 W gx M1) (w5.setRow W6.heap.size (cells M2)) := ⟨h2.1.row hsz _, h2.2.otherRow _ _ (by have := HBX.out.lt; omega)⟩
                refine hK.out _ _ h3 (fun _ => ?_)
                clear hK K
                try simp only [Act.put, List.setIfInBounds_toArray, List.set_cons_zero, List.set_cons_succ]
                refine wpAnyH_takeAt (i := 11) (v := ?_) rfl (by kernel_rfl) (by kernel_rfl) (by kernel_rfl) (fun _ _ _ h => h) (Or.inl ⟨by rfl, ?_⟩) h3 ?_
                rotate_left 1
                · intro w' hS; clear hS
                  go_simp <;> with_reducible rfl
                try simp only [Act.put, List.setIfInBounds_toArray, List.set_cons_zero, List.set_cons_succ]
                refine wpAnyH_done (by kernel_rfl) ?_ _
                refine NoPanic.normal ?_
                go_wp2_with fail
                go_meet
                case rel => exact ⟨_, rfl, rfl, h3.1, h3.2, bE, hsz⟩
            case rest =>
              clear H6 HD2 HBX
              obtain ⟨gy, rfl, rfl, h7, hbx, hby, hgy⟩ := hcut
              cases bb with
              | false =>
                have hlow := h7.low
                clear h7 hbx hby HKO
                go_wp2_with (go_at_call 7; refine (fixed9_any HLL.out _).mono ?_; rintro e w9 ⟨rfl, hb9⟩)
                go_ret
                exact ⟨rfl, hlow.trans (hb9.mono hlow.size)⟩
              | true =>
                refine gen_world (fun W => Kp w c' d'' (.slice (some ⟨g, o, none⟩) na ca) b W ∧ Box 32 W gx M1 ∧ Box 32 W gy M2) ⟨h7, hbx, hby⟩ ?_
                clear h7 hbx hby
                rintro W7 ⟨h7, hbx, hby⟩
                have hbc := h7.bc
                have h8 := h7.rowc M1
                have hbd := h8.bd
                have hby2 := hby.otherRow w.heap.size (cells M1) (by omega)
                have H9 := hideE (h8.rowd M2)
                clear h7 h8 hby
                go_upto_region 16 with fail
                go_wp2_with (first
                  | (refine wpList_load_row rfl 32 _ rfl gx rfl _ _ _ _ hbx Try.underlying32 rfl (infoCs _) ?_)
                  | (refine wpList_store_row rfl 32 _ _ rfl w.heap.size _ rfl rfl _ _ hbc (infoCs _) (cells_same _ _) (cells_one _) ?_)
                  | (refine wpList_load_row rfl 32 _ rfl gy rfl _ _ _ _ hby2 Try.underlying32 rfl (infoCs _) ?_)
                  | (refine wpList_store_row rfl 32 _ _ rfl (w.heap.size + 1) _ rfl rfl _ _ hbd (infoCs _) (cells_same _ _) (cells_one _) ?_))
                go_roundg q
                case measure => omega
                case rel => exact ⟨i + 1, M1, M2, by omega, by simp, HKO.out (by trivial), H9.out⟩
end Go.Proofs.Ytcffpmicencfpaa
namespace Go.Proofs.Ytcffpmicencfpaa.liveKeeps
open Go.ChangeShapes Go.WideShapes Go.ChangeAt Go.RowKit
open Go.ChangeMaps (open_string shut_string)
set_option linter.unusedVariables false

theorem own : ownKnob Try.prog.godebug = none := by kernel_rfl

set_option maxRecDepth 100000 in
theorem lifted (os : Os) (started : os.Started) (H : Type) (enc : TypeId × Value → H) :
    ReturnsInHanded {} Try.checked os 4 .any (Rows.liveKeepsSpec.pre6 enc Try.prog Try.f4 Rows.liveKeepsRow.domain false) (Rows.liveKeepsSpec.post enc Try.prog Try.f4 false true false false) := by
  refine returnsInHanded_of_change (C := Try.checked) own started (by kernel_rfl) Try.func4
    (ChangeSpec.witness6 (enc := enc) (C := Try.checked) false ⟨#[], #[.agg #[.int .u32 0, .int .u32 0, .int .u32 0, .int .u32 0, .int .u32 0, .int .u32 0, .int .u32 0, .int .u32 0, .int .u32 0, .int .u32 0, .int .u32 0, .int .u32 0, .int .u32 0, .int .u32 0, .int .u32 0, .int .u32 0, .int .u32 0, .int .u32 0, .int .u32 0, .int .u32 0, .int .u32 0, .int .u32 0, .int .u32 0, .int .u32 0, .int .u32 0, .int .u32 0, .int .u32 0, .int .u32 0, .int .u32 0, .int .u32 0, .int .u32 0, .int .u32 0, .int .u32 0], .agg #[.int .u32 0, .int .u32 0, .int .u32 0, .int .u32 0, .int .u32 0, .int .u32 0, .int .u32 0, .int .u32 0, .int .u32 0, .int .u32 0, .int .u32 0, .int .u32 0, .int .u32 0, .int .u32 0, .int .u32 0, .int .u32 0, .int .u32 0, .int .u32 0, .int .u32 0, .int .u32 0, .int .u32 0, .int .u32 0, .int .u32 0, .int .u32 0, .int .u32 0, .int .u32 0, .int .u32 0, .int .u32 0, .int .u32 0, .int .u32 0, .int .u32 0, .int .u32 0, .int .u32 0], .agg #[.slice none 0 0, .int .u32 0]], []⟩ 8 (by kernel_rfl) (by kernel_rfl) (by kernel_rfl) (by kernel_rfl)) ?_
  intro W base args ds gs before hval0 hW hcnd _
  have hval : ∀ (j : Nat) t v, Try.f4.params[j]? = some t → args[j]? = some v → Value.okWide Try.prog W .any base t v := hval0
  have hW' := hW
  obtain ⟨p, q, hA0, hV, rfl, hfz, hnd⟩ := hW
  have hA : DataW.TrodAll enc Try.prog W 0 (fun _ => true) true Try.f4.params.toList args.toList ds p := hA0
  rw [Try.params4] at hA hval
  obtain ⟨v0, vs0, d0, ds0, p0, q0, hargs, rfl, rfl, h0, r0⟩ := trodAll_cons hA
  obtain ⟨v1, vs1, d1, ds1, p1, q1, rfl, rfl, rfl, h1, r1⟩ := trodAll_cons r0
  obtain ⟨v2, vs2, d2, ds2, p2, q2, rfl, rfl, rfl, h2, r2⟩ := trodAll_cons r1
  obtain ⟨rfl, rfl, rfl⟩ := trodAll_nil r2
  obtain rfl : args = #[v0, v1, v2] := by cases args; simp_all
  obtain ⟨rfl, rfl⟩ := trodVars_none hV
  have hlt : ∀ x ∈ p0 ++ p1 ++ p2, x.block < W.heap.size := fun x hx => by simpa using hW'.lt x (by simpa using hx)
  have k0 := h0
  have l0 : ∀ x ∈ p0, x.block < W.heap.size := fun x hx => hlt x (by simp [hx])
  have k1 := h1
  have l1 : ∀ x ∈ p1, x.block < W.heap.size := fun x hx => hlt x (by simp [hx])
  have k2 := h2
  have l2 : ∀ x ∈ p2, x.block < W.heap.size := fun x hx => hlt x (by simp [hx])
  obtain ⟨c0, rfl⟩ := open_cpu9 (hval 0 32 v0 rfl rfl) h0
  obtain ⟨c1, rfl⟩ := open_cpu9 (hval 1 32 v1 rfl rfl) h1
  obtain ⟨pi2, ci2, li2, bb2, rfl, hsl2, hcp2, hln2, nil2⟩ := open_run9 (hval 2 34 v2 rfl rfl) h2
  clear hA0 hval0
  refine (liveKeeps_walk lv9 c0 c1 pi2 ci2 li2 bb2 W hsl2 hcp2 hln2 nil2).mono fun e W' ⟨he, hg⟩ => ?_
  subst he
  exact ⟨_, rfl, _, _, _, [], _, [], hW', trodAll_mk1 (shut_bool Try.underlying4 _), (trodAll_cons_mk (Below.trod laidOut6 (by kernel_rfl) (of_decide_eq_true (by kernel_rfl)) k0 hg l0) (trodAll_cons_mk (Below.trod laidOut6 (by kernel_rfl) (of_decide_eq_true (by kernel_rfl)) k1 hg l1) (trodAll_cons_mk (Below.trod laidOut6 (by kernel_rfl) (of_decide_eq_true (by kernel_rfl)) k2 hg l2) trodAll_mk0))), rfl, hg.frame _, fun h => by cases h⟩

theorem over : Rows.liveKeepsRow.holds Try.pinned (OpenSpec.ofChange Rows.liveKeepsSpec) :=
  OpenClaim.holds_of_wide 4 Try.f4 rfl rfl rfl rfl rfl rfl rfl ⟨rfl, rfl, rfl, rfl, rfl⟩ rfl rfl rfl rfl rfl (by kernel_rfl) Try.func4 (by kernel_rfl)
    (of_decide_eq_true (by kernel_rfl)) (by unfold Func.isWrapper; first | (rw [if_pos (by decide +kernel)]; kernel_rfl) | (rw [if_neg (by decide +kernel)]; exact ⟨rfl, rfl⟩))
    (fun os started H enc _ => lifted os started H enc)

theorem proved : Rows.LiveKeepsSaid :=
  over
#print axioms proved
end Go.Proofs.Ytcffpmicencfpaa.liveKeeps
