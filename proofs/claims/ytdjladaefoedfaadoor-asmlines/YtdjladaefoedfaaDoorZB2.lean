/-
  Contract of the document's Parse.
-/

import Derived.Test.YtdjladaefoedfaaDoorZA4
import Derived.Test.YtdjladaefoedfaaDoorZA8
import Derived.Test.YtdjladaefoedfaaDoorZB1
namespace Go.Proofs.YtdjladaefoedfaaDoor
open Go.RowKit Ip As Go.Lib

theorem upTo_cut (s : List UInt8) (k : Nat) (hk : k ≤ s.length) (h : ∀ j b, j < k → s[j]? = some b → b ≠ 32) (he : k = s.length ∨ s[k]? = some 32) : s.take k = upTo 32 s ∧ s.drop k = onward 32 s := by
  have hall : ∀ b ∈ s.take k, b ≠ 32 := fun b hb => by
    obtain ⟨j, hj⟩ := List.mem_iff_getElem?.1 hb
    have hjl : j < k := by
      have := (List.getElem?_eq_some_iff.1 hj).1
      rw [List.length_take] at this; omega
    rw [List.getElem?_take_of_lt hjl] at hj
    exact h j b hjl hj
  rcases he with he | he
  · rw [he, List.take_length] at hall
    rw [he, List.take_length, List.drop_length, upTo_none _ _ hall, onward_none _ _ hall]; exact ⟨rfl, rfl⟩
  · have e := (List.take_append_drop k s)
    rw [drop_cons s k 32 he] at e
    have h1 := upTo_app (s.take k) (s.drop (k + 1)) 32 hall
    have h2 := onward_app (s.take k) (s.drop (k + 1)) 32 hall
    rw [e] at h1 h2
    rw [h1, h2]; exact ⟨rfl, drop_cons s k 32 he⟩

theorem kept {W W' : World} {g : Nat} {cs : Array Value} {t : TypeId} (hb : Below W.heap.size W W') (h : W.heap[g]? = some (.cells cs t (0, 0))) : W'.heap[g]? = some (.cells cs t (0, 0)) := by
  rw [hb.block _ (Array.getElem?_eq_some_iff.1 h).1]; exact h
theorem five_facts {W : World} {g : Nat} (h : W.heap[g]? = some (.cells Z5 23 (0, 0))) :
    (W.cell? ⟨g, 0, none⟩ = some (.int .i64 0) ∧ W.cell? ⟨g, 1, none⟩ = some (.int .i64 0) ∧ W.cell? ⟨g, 2, none⟩ = some (.int .i64 0) ∧ W.cell? ⟨g, 3, none⟩ = some (.int .i64 0) ∧ W.cell? ⟨g, 4, none⟩ = some (.int .i64 0)) ∧
    (W.frozen? ⟨g, 0, none⟩ = false ∧ W.frozen? ⟨g, 1, none⟩ = false ∧ W.frozen? ⟨g, 2, none⟩ = false ∧ W.frozen? ⟨g, 3, none⟩ = false ∧ W.frozen? ⟨g, 4, none⟩ = false) := by
  have c (j : Nat) (hj : j < 5) : W.cell? ⟨g, j, none⟩ = some (.int .i64 0) := by
    simp only [World.cell?]; rw [h]
    match j, hj with
    | 0, _ => rfl
    | 1, _ => rfl
    | 2, _ => rfl
    | 3, _ => rfl
    | 4, _ => rfl
  have f (j : Nat) : W.frozen? ⟨g, j, none⟩ = false := by simp only [World.frozen?]; rw [h]; simp
  exact ⟨⟨c 0 (by decide), c 1 (by decide), c 2 (by decide), c 3 (by decide), c 4 (by decide)⟩, f 0, f 1, f 2, f 3, f 4⟩
theorem gen_world {P : World → Prop} {W : World} (I : World → Prop) (h : I W) (k : ∀ W', I W' → P W') : P W := k W h
/-- What stands when Parse has its guess: the answer's box, the guess's. -/
structure PGot (w : World) (g : Nat) (cs : Array Value) (W : World) : Prop where
  at' : PAt w W
  box : W.heap[g]? = some (.cells cs 23 (0, 0))
theorem five_setS {W : World} {g : Nat} {t : TypeId} (h : W.heap[g]? = some (.cells Z5 t (0, 0))) (a b c d e : Value) :
    (((((W.setCell ⟨g, 0, none⟩ a).setCell ⟨g, 1, none⟩ b).setCell ⟨g, 2, none⟩ c).setCell ⟨g, 3, none⟩ d).setCell ⟨g, 4, none⟩ e).heap[g]? = some (.cells #[a, b, c, d, e] t (0, 0)) := by
  have h0 := heap_setCell_same W g 0 _ _ a h
  have h1 := heap_setCell_same _ g 1 _ _ b h0
  have h2 := heap_setCell_same _ g 2 _ _ c h1
  have h3 := heap_setCell_same _ g 3 _ _ d h2
  have h4 := heap_setCell_same _ g 4 _ _ e h3
  simpa using h4
theorem PAt.five {w W : World} (h : PAt w W) {g : Nat} (hg : w.heap.size < g) (a b c d e : Value) :
    PAt w (((((W.setCell ⟨g, 0, none⟩ a).setCell ⟨g, 1, none⟩ b).setCell ⟨g, 2, none⟩ c).setCell ⟨g, 3, none⟩ d).setCell ⟨g, 4, none⟩ e) := by
  have hB : Below g W (((((W.setCell ⟨g, 0, none⟩ a).setCell ⟨g, 1, none⟩ b).setCell ⟨g, 2, none⟩ c).setCell ⟨g, 3, none⟩ d).setCell ⟨g, 4, none⟩ e) :=
    (((((Below.refl g W).setCell (Nat.le_refl _) a).setCell (Nat.le_refl _) b).setCell (Nat.le_refl _) c).setCell (Nat.le_refl _) d).setCell (Nat.le_refl _) e
  exact ⟨by rw [hB.block _ hg]; exact h.res, h.low.trans (hB.mono (by omega))⟩
theorem PGot.put {w W : World} (h : PAt w W) {g : Nat} (hg : w.heap.size < g) (hr : W.heap[g]? = some (.cells Z5 23 (0, 0))) (a b c d e : Value) :
    PGot w g #[a, b, c, d, e] (((((W.setCell ⟨g, 0, none⟩ a).setCell ⟨g, 1, none⟩ b).setCell ⟨g, 2, none⟩ c).setCell ⟨g, 3, none⟩ d).setCell ⟨g, 4, none⟩ e) := ⟨h.five hg a b c d e, five_setS hr a b c d e⟩
theorem PAt.drew {w W : World} (h : PAt w W) : PAt w W.drew := ⟨h.res, h.low.drew⟩
theorem PGot.new {w W : World} (h : PAt w W) (cs : Array Value) : PGot w W.heap.size cs (W.alloc (.cells cs 23)) := ⟨h.below ((Below.refl _ _).alloc (Nat.le_refl _) _), heap_alloc_new _ _⟩
theorem PAt.box {w W : World} (h : PAt w W) : PAt w (W.alloc (.cells Z5 23)) := h.below ((Below.refl _ _).alloc (Nat.le_refl _) _)

set_option maxHeartbeats 4000000 in
set_option maxRecDepth 100000 in
theorem rparse_bad (s : List UInt8) (hs : s.length ≤ 100000) (op rd rs1 rs2 imm : Int) (hx : rgs s = ⟨op, rd, rs1, rs2, imm⟩) (hk : (Ins.mk op rd rs1 rs2 imm).ok = false) (w : World) :
    Calls Tryd.prog 17 #[.string ⟨s.toArray⟩] w fun e w' => e = .returned (.tuple #[.agg Z5, .int .i64 50]) ∧ Below w.heap.size w w' := by
  have hz := zeroX
  have e1 : prV ⟨op, rd, rs1, rs2, imm⟩ = [] := by unfold prV; rw [hk]; rfl
  have e2 : prE ⟨op, rd, rs1, rs2, imm⟩ = 20 := by unfold prE; rw [hk]; rfl
  clear hk
  obtain ⟨A, hA⟩ : ∃ A, A = upTo 32 s := ⟨_, rfl⟩
  obtain ⟨R, hR⟩ : ∃ R, R = onward 32 s := ⟨_, rfl⟩
  have HA : Hid (upTo 32 s = A) := hA.symm
  have HR : Hid (onward 32 s = R) := hR.symm
  have HF : Hid (fl (byV A) (rn 4 false R) = ⟨op, rd, rs1, rs2, imm⟩) := by show _ = _; rw [hA, hR]; exact hx
  have hRl : R.length ≤ 100000 := by rw [hR]; unfold onward; split <;> simp <;> omega
  clear hA hR hx
  go_enter Tryd.func17, Tryd.ntmps17
  go_wp2
  go_loopw [4] (fun i wr => ∃ k : Nat, k ≤ s.length ∧ i = .int .i64 (k : Int) ∧ (∀ j b, j < k → s[j]? = some b → b ≠ 32) ∧ wr = w.alloc (.cells Z5 23)) (fun i _ => ((s.length : Int) - Go.RowKit.intOf i).toNat)
  case atStart => exact ⟨0, by omega, rfl, fun j b h => absurd h (by omega), rfl⟩
  case round =>
    obtain ⟨k, hk, rfl, hno, hw⟩ := hrel
    have HN : Hid (∀ j b, j < k → s[j]? = some b → b ≠ 32) := hno
    have HW : Hid (wr = w.alloc (.cells Z5 23)) := hw
    have HB0 : Hid (PAt w wr) := by show PAt w wr; rw [hw]; exact PAt.start w
    clear hno hw
    by_cases hke : k < s.length
    · have hk1 : ((k : Int) < (s.length : Int)) := by omega
      obtain ⟨b, hb⟩ : ∃ b, s[k]? = some b := ⟨s[k]'hke, List.getElem?_eq_getElem hke⟩
      have hix := idx_at s k (k : Int) b rfl hb
      by_cases hb32 : b = 32
      · have hq : ((b.toNat : Int) == 32) = true := by rw [hb32]; rfl
        have hc := upTo_cut s k (by omega) HN.out (.inr (by rw [hb, hb32]))
        clear hb hb32
        have hs1 := slice_to s k (by omega)
        have hs2 := slice_from s k (by omega)
        rw [hc.1, HA.out] at hs1
        rw [hc.2, HR.out] at hs2
        clear hc HW
        go_wp2_with fail
        go_region_with (first
          | (go_at_call 15; refine (rby_any _ _).mono ?_; rintro e wb ⟨rfl, hbB⟩)
          | (go_at_call 32; refine (rnums_any _ hRl _).mono ?_; rintro e wn ⟨v, rfl, hown, hbN⟩)
          | (go_at_call 31; refine (rfill_any _ _ _ _ _ (by first | exact hown | exact hown.alloc _)).mono ?_; rintro e wf ⟨he, hbF⟩; rw [HF.out] at he; subst he; first
            | (obtain ⟨⟨y0, y1, y2, y3, y4⟩, f0, f1, f2, f3, f4⟩ := five_facts (kept hbF (heap_alloc_new wn _)))
            | (obtain ⟨⟨y0, y1, y2, y3, y4⟩, f0, f1, f2, f3, f4⟩ := five_facts (kept hbF (kept hbN (heap_alloc_new wb _))))
            | (obtain ⟨⟨y0, y1, y2, y3, y4⟩, f0, f1, f2, f3, f4⟩ := five_facts (kept hbF (kept hbN (kept hbB (heap_alloc_new wr _)))))
            | skip))
        all_goals
          first
            | refine gen_world (PGot w wf.heap.size #[.int .i64 op, .int .i64 rd, .int .i64 rs1, .int .i64 rs2, .int .i64 imm]) (PGot.new (((HB0.out.drew.below hbB).below hbN).below hbF) _) ?_
            | refine gen_world (PGot w wn.heap.size #[.int .i64 op, .int .i64 rd, .int .i64 rs1, .int .i64 rs2, .int .i64 imm]) (PGot.put (((HB0.out.drew.below hbB).below hbN).box.below hbF) ((HB0.out.drew.below hbB).below hbN).lt (kept hbF (heap_alloc_new wn _)) _ _ _ _ _) ?_
            | refine gen_world (PGot w wb.heap.size #[.int .i64 op, .int .i64 rd, .int .i64 rs1, .int .i64 rs2, .int .i64 imm]) (PGot.put (((HB0.out.drew.below hbB).box.below hbN).below hbF) (HB0.out.drew.below hbB).lt (kept hbF (kept hbN (heap_alloc_new wb _))) _ _ _ _ _) ?_
            | refine gen_world (PGot w wr.heap.size #[.int .i64 op, .int .i64 rd, .int .i64 rs1, .int .i64 rs2, .int .i64 imm]) (PGot.put (((HB0.out.drew.box.below hbB).below hbN).below hbF) HB0.out.lt (kept hbF (kept hbN (kept hbB (heap_alloc_new wr _)))) _ _ _ _ _) ?_
          intro Wc hGot
          have HX := hGot.at'
          have hbx := hGot.box
          clear hGot
          go_wp2_with (first
            | (refine wpList_load_row rfl 23 _ rfl _ rfl _ _ _ _ hbx Tryd.underlying23 rfl (by kernel_rfl) ?_))
          refine (rprint_any ⟨op, rd, rs1, rs2, imm⟩ _).mono ?_
          rintro e w3 ⟨rfl, hb3⟩
          have hbx3 := kept hb3 hbx
          have HX3 := HX.below hb3
          have hr := HX3.res
          clear hb3 hbx
          rw [e1, e2]
          go_wp2_with (first
            | (refine wpList_load_row rfl 23 _ rfl _ rfl _ _ _ _ hbx3 Tryd.underlying23 rfl (by kernel_rfl) ?_)
            | (refine wpList_store_row rfl 23 _ _ rfl w.heap.size Z5 rfl rfl _ Z5 hr (by kernel_rfl) rfl (by kernel_rfl) ?_))
          refine bodyPost_ret (v := .tuple #[.agg Z5, .int .i64 50]) (results_row_tmpA (p := 2) (u := 3) (by kernel_rfl) _ _ w.heap.size _ _ _ _ rfl (setRow_heap _ _ _ _ _ _ hr) Tryd.underlying23 rfl (by kernel_rfl)) rfl ⟨rfl, below_setRow HX3.low (Nat.le_refl _) _⟩
      · have hq : ((b.toNat : Int) == 32) = false := beq_eq_false_iff_ne.2 (fun e => hb32 (UInt8.toNat_inj.1 (by show b.toNat = 32; omega)))
        have hw4 : IntKind.i64.wrap ((k : Int) + 1) = (k : Int) + 1 := wr64 (by omega) (by omega)
        have Hb : Hid (s[k]? = some b) := hb
        have Hb3 : Hid (b ≠ 32) := hb32
        clear hb hb32
        go_wp2_with fail
        go_roundw
        case measure => show ((s.length : Int) - ((k : Int) + 1)).toNat < ((s.length : Int) - (k : Int)).toNat; omega
        exact ⟨k + 1, by omega, rfl, fun j c hj hc => by
          by_cases e : j = k
          · rw [e, Hb.out] at hc; injection hc with hc; rw [← hc]; exact Hb3.out
          · exact HN.out j c (by omega) hc, HW.out⟩
    · have hk1 : ¬ ((k : Int) < (s.length : Int)) := by omega
      have hc := upTo_cut s k (by omega) HN.out (.inl (by omega))
      have hs1 := slice_to s k (by omega)
      have hs2 := slice_from s k (by omega)
      rw [hc.1, HA.out] at hs1
      rw [hc.2, HR.out] at hs2
      clear hc HW
      go_wp2_with fail
      go_region_with (first
        | (go_at_call 15; refine (rby_any _ _).mono ?_; rintro e wb ⟨rfl, hbB⟩)
        | (go_at_call 32; refine (rnums_any _ hRl _).mono ?_; rintro e wn ⟨v, rfl, hown, hbN⟩)
        | (go_at_call 31; refine (rfill_any _ _ _ _ _ (by first | exact hown | exact hown.alloc _)).mono ?_; rintro e wf ⟨he, hbF⟩; rw [HF.out] at he; subst he; first
          | (obtain ⟨⟨y0, y1, y2, y3, y4⟩, f0, f1, f2, f3, f4⟩ := five_facts (kept hbF (heap_alloc_new wn _)))
          | (obtain ⟨⟨y0, y1, y2, y3, y4⟩, f0, f1, f2, f3, f4⟩ := five_facts (kept hbF (kept hbN (heap_alloc_new wb _))))
          | (obtain ⟨⟨y0, y1, y2, y3, y4⟩, f0, f1, f2, f3, f4⟩ := five_facts (kept hbF (kept hbN (kept hbB (heap_alloc_new wr _)))))
          | skip))
      all_goals
        first
          | refine gen_world (PGot w wf.heap.size #[.int .i64 op, .int .i64 rd, .int .i64 rs1, .int .i64 rs2, .int .i64 imm]) (PGot.new (((HB0.out.drew.below hbB).below hbN).below hbF) _) ?_
          | refine gen_world (PGot w wn.heap.size #[.int .i64 op, .int .i64 rd, .int .i64 rs1, .int .i64 rs2, .int .i64 imm]) (PGot.put (((HB0.out.drew.below hbB).below hbN).box.below hbF) ((HB0.out.drew.below hbB).below hbN).lt (kept hbF (heap_alloc_new wn _)) _ _ _ _ _) ?_
          | refine gen_world (PGot w wb.heap.size #[.int .i64 op, .int .i64 rd, .int .i64 rs1, .int .i64 rs2, .int .i64 imm]) (PGot.put (((HB0.out.drew.below hbB).box.below hbN).below hbF) (HB0.out.drew.below hbB).lt (kept hbF (kept hbN (heap_alloc_new wb _))) _ _ _ _ _) ?_
          | refine gen_world (PGot w wr.heap.size #[.int .i64 op, .int .i64 rd, .int .i64 rs1, .int .i64 rs2, .int .i64 imm]) (PGot.put (((HB0.out.drew.box.below hbB).below hbN).below hbF) HB0.out.lt (kept hbF (kept hbN (kept hbB (heap_alloc_new wr _)))) _ _ _ _ _) ?_
        intro Wc hGot
        have HX := hGot.at'
        have hbx := hGot.box
        clear hGot
        go_wp2_with (first
          | (refine wpList_load_row rfl 23 _ rfl _ rfl _ _ _ _ hbx Tryd.underlying23 rfl (by kernel_rfl) ?_))
        refine (rprint_any ⟨op, rd, rs1, rs2, imm⟩ _).mono ?_
        rintro e w3 ⟨rfl, hb3⟩
        have hbx3 := kept hb3 hbx
        have HX3 := HX.below hb3
        have hr := HX3.res
        clear hb3 hbx
        rw [e1, e2]
        go_wp2_with (first
          | (refine wpList_load_row rfl 23 _ rfl _ rfl _ _ _ _ hbx3 Tryd.underlying23 rfl (by kernel_rfl) ?_)
          | (refine wpList_store_row rfl 23 _ _ rfl w.heap.size Z5 rfl rfl _ Z5 hr (by kernel_rfl) rfl (by kernel_rfl) ?_))
        refine bodyPost_ret (v := .tuple #[.agg Z5, .int .i64 50]) (results_row_tmpA (p := 2) (u := 3) (by kernel_rfl) _ _ w.heap.size _ _ _ _ rfl (setRow_heap _ _ _ _ _ _ hr) Tryd.underlying23 rfl (by kernel_rfl)) rfl ⟨rfl, below_setRow HX3.low (Nat.le_refl _) _⟩

set_option maxHeartbeats 4000000 in
set_option maxRecDepth 100000 in
theorem rparse_other (s : List UInt8) (hs : s.length ≤ 100000) (op rd rs1 rs2 imm : Int) (hx : rgs s = ⟨op, rd, rs1, rs2, imm⟩) (hk : (Ins.mk op rd rs1 rs2 imm).ok = true) (ht : txt ⟨op, rd, rs1, rs2, imm⟩ ≠ s) (w : World) :
    Calls Tryd.prog 17 #[.string ⟨s.toArray⟩] w fun e w' => e = .returned (.tuple #[.agg Z5, .int .i64 50]) ∧ Below w.heap.size w w' := by
  have hz := zeroX
  have e1 : prV ⟨op, rd, rs1, rs2, imm⟩ = txt ⟨op, rd, rs1, rs2, imm⟩ := by unfold prV; rw [hk]; rfl
  have e2 : prE ⟨op, rd, rs1, rs2, imm⟩ = 0 := by unfold prE; rw [hk]; rfl
  have hq0 : (!(txt ⟨op, rd, rs1, rs2, imm⟩ == s)) = true := by rw [show (txt ⟨op, rd, rs1, rs2, imm⟩ == s) = false from beq_eq_false_iff_ne.2 ht]; rfl
  clear hk ht
  obtain ⟨A, hA⟩ : ∃ A, A = upTo 32 s := ⟨_, rfl⟩
  obtain ⟨R, hR⟩ : ∃ R, R = onward 32 s := ⟨_, rfl⟩
  have HA : Hid (upTo 32 s = A) := hA.symm
  have HR : Hid (onward 32 s = R) := hR.symm
  have HF : Hid (fl (byV A) (rn 4 false R) = ⟨op, rd, rs1, rs2, imm⟩) := by show _ = _; rw [hA, hR]; exact hx
  have hRl : R.length ≤ 100000 := by rw [hR]; unfold onward; split <;> simp <;> omega
  clear hA hR hx
  go_enter Tryd.func17, Tryd.ntmps17
  go_wp2
  go_loopw [4] (fun i wr => ∃ k : Nat, k ≤ s.length ∧ i = .int .i64 (k : Int) ∧ (∀ j b, j < k → s[j]? = some b → b ≠ 32) ∧ wr = w.alloc (.cells Z5 23)) (fun i _ => ((s.length : Int) - Go.RowKit.intOf i).toNat)
  case atStart => exact ⟨0, by omega, rfl, fun j b h => absurd h (by omega), rfl⟩
  case round =>
    obtain ⟨k, hk, rfl, hno, hw⟩ := hrel
    have HN : Hid (∀ j b, j < k → s[j]? = some b → b ≠ 32) := hno
    have HW : Hid (wr = w.alloc (.cells Z5 23)) := hw
    have HB0 : Hid (PAt w wr) := by show PAt w wr; rw [hw]; exact PAt.start w
    clear hno hw
    by_cases hke : k < s.length
    · have hk1 : ((k : Int) < (s.length : Int)) := by omega
      obtain ⟨b, hb⟩ : ∃ b, s[k]? = some b := ⟨s[k]'hke, List.getElem?_eq_getElem hke⟩
      have hix := idx_at s k (k : Int) b rfl hb
      by_cases hb32 : b = 32
      · have hq : ((b.toNat : Int) == 32) = true := by rw [hb32]; rfl
        have hc := upTo_cut s k (by omega) HN.out (.inr (by rw [hb, hb32]))
        clear hb hb32
        have hs1 := slice_to s k (by omega)
        have hs2 := slice_from s k (by omega)
        rw [hc.1, HA.out] at hs1
        rw [hc.2, HR.out] at hs2
        clear hc HW
        go_wp2_with fail
        go_region_with (first
          | (go_at_call 15; refine (rby_any _ _).mono ?_; rintro e wb ⟨rfl, hbB⟩)
          | (go_at_call 32; refine (rnums_any _ hRl _).mono ?_; rintro e wn ⟨v, rfl, hown, hbN⟩)
          | (go_at_call 31; refine (rfill_any _ _ _ _ _ (by first | exact hown | exact hown.alloc _)).mono ?_; rintro e wf ⟨he, hbF⟩; rw [HF.out] at he; subst he; first
            | (obtain ⟨⟨y0, y1, y2, y3, y4⟩, f0, f1, f2, f3, f4⟩ := five_facts (kept hbF (heap_alloc_new wn _)))
            | (obtain ⟨⟨y0, y1, y2, y3, y4⟩, f0, f1, f2, f3, f4⟩ := five_facts (kept hbF (kept hbN (heap_alloc_new wb _))))
            | (obtain ⟨⟨y0, y1, y2, y3, y4⟩, f0, f1, f2, f3, f4⟩ := five_facts (kept hbF (kept hbN (kept hbB (heap_alloc_new wr _)))))
            | skip))
        all_goals
          first
            | refine gen_world (PGot w wf.heap.size #[.int .i64 op, .int .i64 rd, .int .i64 rs1, .int .i64 rs2, .int .i64 imm]) (PGot.new (((HB0.out.drew.below hbB).below hbN).below hbF) _) ?_
            | refine gen_world (PGot w wn.heap.size #[.int .i64 op, .int .i64 rd, .int .i64 rs1, .int .i64 rs2, .int .i64 imm]) (PGot.put (((HB0.out.drew.below hbB).below hbN).box.below hbF) ((HB0.out.drew.below hbB).below hbN).lt (kept hbF (heap_alloc_new wn _)) _ _ _ _ _) ?_
            | refine gen_world (PGot w wb.heap.size #[.int .i64 op, .int .i64 rd, .int .i64 rs1, .int .i64 rs2, .int .i64 imm]) (PGot.put (((HB0.out.drew.below hbB).box.below hbN).below hbF) (HB0.out.drew.below hbB).lt (kept hbF (kept hbN (heap_alloc_new wb _))) _ _ _ _ _) ?_
            | refine gen_world (PGot w wr.heap.size #[.int .i64 op, .int .i64 rd, .int .i64 rs1, .int .i64 rs2, .int .i64 imm]) (PGot.put (((HB0.out.drew.box.below hbB).below hbN).below hbF) HB0.out.lt (kept hbF (kept hbN (kept hbB (heap_alloc_new wr _)))) _ _ _ _ _) ?_
          intro Wc hGot
          have HX := hGot.at'
          have hbx := hGot.box
          clear hGot
          go_wp2_with (first
            | (refine wpList_load_row rfl 23 _ rfl _ rfl _ _ _ _ hbx Tryd.underlying23 rfl (by kernel_rfl) ?_))
          refine (rprint_any ⟨op, rd, rs1, rs2, imm⟩ _).mono ?_
          rintro e w3 ⟨rfl, hb3⟩
          have hbx3 := kept hb3 hbx
          have HX3 := HX.below hb3
          have hr := HX3.res
          clear hb3 hbx
          rw [e1, e2]
          go_wp2_with (first
            | (refine wpList_load_row rfl 23 _ rfl _ rfl _ _ _ _ hbx3 Tryd.underlying23 rfl (by kernel_rfl) ?_)
            | (refine wpList_store_row rfl 23 _ _ rfl w.heap.size Z5 rfl rfl _ Z5 hr (by kernel_rfl) rfl (by kernel_rfl) ?_))
          refine bodyPost_ret (v := .tuple #[.agg Z5, .int .i64 50]) (results_row_tmpA (p := 2) (u := 3) (by kernel_rfl) _ _ w.heap.size _ _ _ _ rfl (setRow_heap _ _ _ _ _ _ hr) Tryd.underlying23 rfl (by kernel_rfl)) rfl ⟨rfl, below_setRow HX3.low (Nat.le_refl _) _⟩
      · have hq : ((b.toNat : Int) == 32) = false := beq_eq_false_iff_ne.2 (fun e => hb32 (UInt8.toNat_inj.1 (by show b.toNat = 32; omega)))
        have hw4 : IntKind.i64.wrap ((k : Int) + 1) = (k : Int) + 1 := wr64 (by omega) (by omega)
        have Hb : Hid (s[k]? = some b) := hb
        have Hb3 : Hid (b ≠ 32) := hb32
        clear hb hb32
        go_wp2_with fail
        go_roundw
        case measure => show ((s.length : Int) - ((k : Int) + 1)).toNat < ((s.length : Int) - (k : Int)).toNat; omega
        exact ⟨k + 1, by omega, rfl, fun j c hj hc => by
          by_cases e : j = k
          · rw [e, Hb.out] at hc; injection hc with hc; rw [← hc]; exact Hb3.out
          · exact HN.out j c (by omega) hc, HW.out⟩
    · have hk1 : ¬ ((k : Int) < (s.length : Int)) := by omega
      have hc := upTo_cut s k (by omega) HN.out (.inl (by omega))
      have hs1 := slice_to s k (by omega)
      have hs2 := slice_from s k (by omega)
      rw [hc.1, HA.out] at hs1
      rw [hc.2, HR.out] at hs2
      clear hc HW
      go_wp2_with fail
      go_region_with (first
        | (go_at_call 15; refine (rby_any _ _).mono ?_; rintro e wb ⟨rfl, hbB⟩)
        | (go_at_call 32; refine (rnums_any _ hRl _).mono ?_; rintro e wn ⟨v, rfl, hown, hbN⟩)
        | (go_at_call 31; refine (rfill_any _ _ _ _ _ (by first | exact hown | exact hown.alloc _)).mono ?_; rintro e wf ⟨he, hbF⟩; rw [HF.out] at he; subst he; first
          | (obtain ⟨⟨y0, y1, y2, y3, y4⟩, f0, f1, f2, f3, f4⟩ := five_facts (kept hbF (heap_alloc_new wn _)))
          | (obtain ⟨⟨y0, y1, y2, y3, y4⟩, f0, f1, f2, f3, f4⟩ := five_facts (kept hbF (kept hbN (heap_alloc_new wb _))))
          | (obtain ⟨⟨y0, y1, y2, y3, y4⟩, f0, f1, f2, f3, f4⟩ := five_facts (kept hbF (kept hbN (kept hbB (heap_alloc_new wr _)))))
          | skip))
      all_goals
        first
          | refine gen_world (PGot w wf.heap.size #[.int .i64 op, .int .i64 rd, .int .i64 rs1, .int .i64 rs2, .int .i64 imm]) (PGot.new (((HB0.out.drew.below hbB).below hbN).below hbF) _) ?_
          | refine gen_world (PGot w wn.heap.size #[.int .i64 op, .int .i64 rd, .int .i64 rs1, .int .i64 rs2, .int .i64 imm]) (PGot.put (((HB0.out.drew.below hbB).below hbN).box.below hbF) ((HB0.out.drew.below hbB).below hbN).lt (kept hbF (heap_alloc_new wn _)) _ _ _ _ _) ?_
          | refine gen_world (PGot w wb.heap.size #[.int .i64 op, .int .i64 rd, .int .i64 rs1, .int .i64 rs2, .int .i64 imm]) (PGot.put (((HB0.out.drew.below hbB).box.below hbN).below hbF) (HB0.out.drew.below hbB).lt (kept hbF (kept hbN (heap_alloc_new wb _))) _ _ _ _ _) ?_
          | refine gen_world (PGot w wr.heap.size #[.int .i64 op, .int .i64 rd, .int .i64 rs1, .int .i64 rs2, .int .i64 imm]) (PGot.put (((HB0.out.drew.box.below hbB).below hbN).below hbF) HB0.out.lt (kept hbF (kept hbN (kept hbB (heap_alloc_new wr _)))) _ _ _ _ _) ?_
        intro Wc hGot
        have HX := hGot.at'
        have hbx := hGot.box
        clear hGot
        go_wp2_with (first
          | (refine wpList_load_row rfl 23 _ rfl _ rfl _ _ _ _ hbx Tryd.underlying23 rfl (by kernel_rfl) ?_))
        refine (rprint_any ⟨op, rd, rs1, rs2, imm⟩ _).mono ?_
        rintro e w3 ⟨rfl, hb3⟩
        have hbx3 := kept hb3 hbx
        have HX3 := HX.below hb3
        have hr := HX3.res
        clear hb3 hbx
        rw [e1, e2]
        go_wp2_with (first
          | (refine wpList_load_row rfl 23 _ rfl _ rfl _ _ _ _ hbx3 Tryd.underlying23 rfl (by kernel_rfl) ?_)
          | (refine wpList_store_row rfl 23 _ _ rfl w.heap.size Z5 rfl rfl _ Z5 hr (by kernel_rfl) rfl (by kernel_rfl) ?_))
        refine bodyPost_ret (v := .tuple #[.agg Z5, .int .i64 50]) (results_row_tmpA (p := 2) (u := 3) (by kernel_rfl) _ _ w.heap.size _ _ _ _ rfl (setRow_heap _ _ _ _ _ _ hr) Tryd.underlying23 rfl (by kernel_rfl)) rfl ⟨rfl, below_setRow HX3.low (Nat.le_refl _) _⟩

set_option maxHeartbeats 4000000 in
set_option maxRecDepth 100000 in
theorem rparse_yes (s : List UInt8) (hs : s.length ≤ 100000) (op rd rs1 rs2 imm : Int) (hx : rgs s = ⟨op, rd, rs1, rs2, imm⟩) (hk : (Ins.mk op rd rs1 rs2 imm).ok = true) (ht : txt ⟨op, rd, rs1, rs2, imm⟩ = s) (w : World) :
    Calls Tryd.prog 17 #[.string ⟨s.toArray⟩] w fun e w' => e = .returned (.tuple #[.agg #[.int .i64 op, .int .i64 rd, .int .i64 rs1, .int .i64 rs2, .int .i64 imm], .int .i64 0]) ∧ Below w.heap.size w w' := by
  have hz := zeroX
  have e1 : prV ⟨op, rd, rs1, rs2, imm⟩ = txt ⟨op, rd, rs1, rs2, imm⟩ := by unfold prV; rw [hk]; rfl
  have e2 : prE ⟨op, rd, rs1, rs2, imm⟩ = 0 := by unfold prE; rw [hk]; rfl
  have hq0 : (!(txt ⟨op, rd, rs1, rs2, imm⟩ == s)) = false := by rw [show (txt ⟨op, rd, rs1, rs2, imm⟩ == s) = true from beq_iff_eq.2 ht]; rfl
  clear hk ht
  obtain ⟨A, hA⟩ : ∃ A, A = upTo 32 s := ⟨_, rfl⟩
  obtain ⟨R, hR⟩ : ∃ R, R = onward 32 s := ⟨_, rfl⟩
  have HA : Hid (upTo 32 s = A) := hA.symm
  have HR : Hid (onward 32 s = R) := hR.symm
  have HF : Hid (fl (byV A) (rn 4 false R) = ⟨op, rd, rs1, rs2, imm⟩) := by show _ = _; rw [hA, hR]; exact hx
  have hRl : R.length ≤ 100000 := by rw [hR]; unfold onward; split <;> simp <;> omega
  clear hA hR hx
  go_enter Tryd.func17, Tryd.ntmps17
  go_wp2
  go_loopw [4] (fun i wr => ∃ k : Nat, k ≤ s.length ∧ i = .int .i64 (k : Int) ∧ (∀ j b, j < k → s[j]? = some b → b ≠ 32) ∧ wr = w.alloc (.cells Z5 23)) (fun i _ => ((s.length : Int) - Go.RowKit.intOf i).toNat)
  case atStart => exact ⟨0, by omega, rfl, fun j b h => absurd h (by omega), rfl⟩
  case round =>
    obtain ⟨k, hk, rfl, hno, hw⟩ := hrel
    have HN : Hid (∀ j b, j < k → s[j]? = some b → b ≠ 32) := hno
    have HW : Hid (wr = w.alloc (.cells Z5 23)) := hw
    have HB0 : Hid (PAt w wr) := by show PAt w wr; rw [hw]; exact PAt.start w
    clear hno hw
    by_cases hke : k < s.length
    · have hk1 : ((k : Int) < (s.length : Int)) := by omega
      obtain ⟨b, hb⟩ : ∃ b, s[k]? = some b := ⟨s[k]'hke, List.getElem?_eq_getElem hke⟩
      have hix := idx_at s k (k : Int) b rfl hb
      by_cases hb32 : b = 32
      · have hq : ((b.toNat : Int) == 32) = true := by rw [hb32]; rfl
        have hc := upTo_cut s k (by omega) HN.out (.inr (by rw [hb, hb32]))
        clear hb hb32
        have hs1 := slice_to s k (by omega)
        have hs2 := slice_from s k (by omega)
        rw [hc.1, HA.out] at hs1
        rw [hc.2, HR.out] at hs2
        clear hc HW
        go_wp2_with fail
        go_region_with (first
          | (go_at_call 15; refine (rby_any _ _).mono ?_; rintro e wb ⟨rfl, hbB⟩)
          | (go_at_call 32; refine (rnums_any _ hRl _).mono ?_; rintro e wn ⟨v, rfl, hown, hbN⟩)
          | (go_at_call 31; refine (rfill_any _ _ _ _ _ (by first | exact hown | exact hown.alloc _)).mono ?_; rintro e wf ⟨he, hbF⟩; rw [HF.out] at he; subst he; first
            | (obtain ⟨⟨y0, y1, y2, y3, y4⟩, f0, f1, f2, f3, f4⟩ := five_facts (kept hbF (heap_alloc_new wn _)))
            | (obtain ⟨⟨y0, y1, y2, y3, y4⟩, f0, f1, f2, f3, f4⟩ := five_facts (kept hbF (kept hbN (heap_alloc_new wb _))))
            | (obtain ⟨⟨y0, y1, y2, y3, y4⟩, f0, f1, f2, f3, f4⟩ := five_facts (kept hbF (kept hbN (kept hbB (heap_alloc_new wr _)))))
            | skip))
        all_goals
          first
            | refine gen_world (PGot w wf.heap.size #[.int .i64 op, .int .i64 rd, .int .i64 rs1, .int .i64 rs2, .int .i64 imm]) (PGot.new (((HB0.out.drew.below hbB).below hbN).below hbF) _) ?_
            | refine gen_world (PGot w wn.heap.size #[.int .i64 op, .int .i64 rd, .int .i64 rs1, .int .i64 rs2, .int .i64 imm]) (PGot.put (((HB0.out.drew.below hbB).below hbN).box.below hbF) ((HB0.out.drew.below hbB).below hbN).lt (kept hbF (heap_alloc_new wn _)) _ _ _ _ _) ?_
            | refine gen_world (PGot w wb.heap.size #[.int .i64 op, .int .i64 rd, .int .i64 rs1, .int .i64 rs2, .int .i64 imm]) (PGot.put (((HB0.out.drew.below hbB).box.below hbN).below hbF) (HB0.out.drew.below hbB).lt (kept hbF (kept hbN (heap_alloc_new wb _))) _ _ _ _ _) ?_
            | refine gen_world (PGot w wr.heap.size #[.int .i64 op, .int .i64 rd, .int .i64 rs1, .int .i64 rs2, .int .i64 imm]) (PGot.put (((HB0.out.drew.box.below hbB).below hbN).below hbF) HB0.out.lt (kept hbF (kept hbN (kept hbB (heap_alloc_new wr _)))) _ _ _ _ _) ?_
          intro Wc hGot
          have HX := hGot.at'
          have hbx := hGot.box
          clear hGot
          go_wp2_with (first
            | (refine wpList_load_row rfl 23 _ rfl _ rfl _ _ _ _ hbx Tryd.underlying23 rfl (by kernel_rfl) ?_))
          refine (rprint_any ⟨op, rd, rs1, rs2, imm⟩ _).mono ?_
          rintro e w3 ⟨rfl, hb3⟩
          have hbx3 := kept hb3 hbx
          have HX3 := HX.below hb3
          have hr := HX3.res
          clear hb3 hbx
          rw [e1, e2]
          go_wp2_with (first
            | (refine wpList_load_row rfl 23 _ rfl _ rfl _ _ _ _ hbx3 Tryd.underlying23 rfl (by kernel_rfl) ?_)
            | (refine wpList_store_row rfl 23 _ _ rfl w.heap.size #[.int .i64 op, .int .i64 rd, .int .i64 rs1, .int .i64 rs2, .int .i64 imm] rfl rfl _ Z5 hr (by kernel_rfl) rfl (by kernel_rfl) ?_))
          refine bodyPost_ret (v := .tuple #[.agg #[.int .i64 op, .int .i64 rd, .int .i64 rs1, .int .i64 rs2, .int .i64 imm], .int .i64 0]) (results_row_tmpA (p := 2) (u := 3) (by kernel_rfl) _ _ w.heap.size _ _ _ _ rfl (setRow_heap _ _ _ _ _ _ hr) Tryd.underlying23 rfl (by kernel_rfl)) rfl ⟨rfl, below_setRow HX3.low (Nat.le_refl _) _⟩
      · have hq : ((b.toNat : Int) == 32) = false := beq_eq_false_iff_ne.2 (fun e => hb32 (UInt8.toNat_inj.1 (by show b.toNat = 32; omega)))
        have hw4 : IntKind.i64.wrap ((k : Int) + 1) = (k : Int) + 1 := wr64 (by omega) (by omega)
        have Hb : Hid (s[k]? = some b) := hb
        have Hb3 : Hid (b ≠ 32) := hb32
        clear hb hb32
        go_wp2_with fail
        go_roundw
        case measure => show ((s.length : Int) - ((k : Int) + 1)).toNat < ((s.length : Int) - (k : Int)).toNat; omega
        exact ⟨k + 1, by omega, rfl, fun j c hj hc => by
          by_cases e : j = k
          · rw [e, Hb.out] at hc; injection hc with hc; rw [← hc]; exact Hb3.out
          · exact HN.out j c (by omega) hc, HW.out⟩
    · have hk1 : ¬ ((k : Int) < (s.length : Int)) := by omega
      have hc := upTo_cut s k (by omega) HN.out (.inl (by omega))
      have hs1 := slice_to s k (by omega)
      have hs2 := slice_from s k (by omega)
      rw [hc.1, HA.out] at hs1
      rw [hc.2, HR.out] at hs2
      clear hc HW
      go_wp2_with fail
      go_region_with (first
        | (go_at_call 15; refine (rby_any _ _).mono ?_; rintro e wb ⟨rfl, hbB⟩)
        | (go_at_call 32; refine (rnums_any _ hRl _).mono ?_; rintro e wn ⟨v, rfl, hown, hbN⟩)
        | (go_at_call 31; refine (rfill_any _ _ _ _ _ (by first | exact hown | exact hown.alloc _)).mono ?_; rintro e wf ⟨he, hbF⟩; rw [HF.out] at he; subst he; first
          | (obtain ⟨⟨y0, y1, y2, y3, y4⟩, f0, f1, f2, f3, f4⟩ := five_facts (kept hbF (heap_alloc_new wn _)))
          | (obtain ⟨⟨y0, y1, y2, y3, y4⟩, f0, f1, f2, f3, f4⟩ := five_facts (kept hbF (kept hbN (heap_alloc_new wb _))))
          | (obtain ⟨⟨y0, y1, y2, y3, y4⟩, f0, f1, f2, f3, f4⟩ := five_facts (kept hbF (kept hbN (kept hbB (heap_alloc_new wr _)))))
          | skip))
      all_goals
        first
          | refine gen_world (PGot w wf.heap.size #[.int .i64 op, .int .i64 rd, .int .i64 rs1, .int .i64 rs2, .int .i64 imm]) (PGot.new (((HB0.out.drew.below hbB).below hbN).below hbF) _) ?_
          | refine gen_world (PGot w wn.heap.size #[.int .i64 op, .int .i64 rd, .int .i64 rs1, .int .i64 rs2, .int .i64 imm]) (PGot.put (((HB0.out.drew.below hbB).below hbN).box.below hbF) ((HB0.out.drew.below hbB).below hbN).lt (kept hbF (heap_alloc_new wn _)) _ _ _ _ _) ?_
          | refine gen_world (PGot w wb.heap.size #[.int .i64 op, .int .i64 rd, .int .i64 rs1, .int .i64 rs2, .int .i64 imm]) (PGot.put (((HB0.out.drew.below hbB).box.below hbN).below hbF) (HB0.out.drew.below hbB).lt (kept hbF (kept hbN (heap_alloc_new wb _))) _ _ _ _ _) ?_
          | refine gen_world (PGot w wr.heap.size #[.int .i64 op, .int .i64 rd, .int .i64 rs1, .int .i64 rs2, .int .i64 imm]) (PGot.put (((HB0.out.drew.box.below hbB).below hbN).below hbF) HB0.out.lt (kept hbF (kept hbN (kept hbB (heap_alloc_new wr _)))) _ _ _ _ _) ?_
        intro Wc hGot
        have HX := hGot.at'
        have hbx := hGot.box
        clear hGot
        go_wp2_with (first
          | (refine wpList_load_row rfl 23 _ rfl _ rfl _ _ _ _ hbx Tryd.underlying23 rfl (by kernel_rfl) ?_))
        refine (rprint_any ⟨op, rd, rs1, rs2, imm⟩ _).mono ?_
        rintro e w3 ⟨rfl, hb3⟩
        have hbx3 := kept hb3 hbx
        have HX3 := HX.below hb3
        have hr := HX3.res
        clear hb3 hbx
        rw [e1, e2]
        go_wp2_with (first
          | (refine wpList_load_row rfl 23 _ rfl _ rfl _ _ _ _ hbx3 Tryd.underlying23 rfl (by kernel_rfl) ?_)
          | (refine wpList_store_row rfl 23 _ _ rfl w.heap.size #[.int .i64 op, .int .i64 rd, .int .i64 rs1, .int .i64 rs2, .int .i64 imm] rfl rfl _ Z5 hr (by kernel_rfl) rfl (by kernel_rfl) ?_))
        refine bodyPost_ret (v := .tuple #[.agg #[.int .i64 op, .int .i64 rd, .int .i64 rs1, .int .i64 rs2, .int .i64 imm], .int .i64 0]) (results_row_tmpA (p := 2) (u := 3) (by kernel_rfl) _ _ w.heap.size _ _ _ _ rfl (setRow_heap _ _ _ _ _ _ hr) Tryd.underlying23 rfl (by kernel_rfl)) rfl ⟨rfl, below_setRow HX3.low (Nat.le_refl _) _⟩

theorem rparse_any (s : List UInt8) (hs : s.length ≤ 100000) (w : World) :
    Calls Tryd.prog 17 #[.string ⟨s.toArray⟩] w fun e w' => e = .returned (.tuple #[(psV s).val, .int .i64 (psE s)]) ∧ Below w.heap.size w w' := by
  obtain ⟨op, rd, rs1, rs2, imm, hx⟩ : ∃ op rd rs1 rs2 imm, rgs s = ⟨op, rd, rs1, rs2, imm⟩ := ⟨_, _, _, _, _, rfl⟩
  have hp := (rprs_eq s).symm
  cases hk : (Ins.mk op rd rs1 rs2 imm).ok
  · have e := ps_none (l := s) (by rw [hp]; unfold rprs; rw [hx, if_neg (by rw [hk]; simp)])
    rw [e.1, e.2]; exact rparse_bad s hs _ _ _ _ _ hx hk w
  · by_cases ht : txt ⟨op, rd, rs1, rs2, imm⟩ = s
    · have e := ps_some (l := s) (x := ⟨op, rd, rs1, rs2, imm⟩) (by rw [hp]; unfold rprs; rw [hx, if_pos ⟨hk, ht⟩])
      rw [e.1, e.2]; exact rparse_yes s hs _ _ _ _ _ hx hk ht w
    · have e := ps_none (l := s) (by rw [hp]; unfold rprs; rw [hx, if_neg (fun h => ht h.2)])
      rw [e.1, e.2]; exact rparse_other s hs _ _ _ _ _ hx hk ht w
end Go.Proofs.YtdjladaefoedfaaDoor
