/-
  Contract of package image's listed: the words of a text's bytes as a list.
-/
import Derived.Test.YtkfomhllaogplaaGD
namespace Go.Proofs.Ytkfomhllaogplaa
open Go.RowKit El Go.Lib Go.Shelf
open Classical
set_option linter.unusedSimpArgs false
set_option linter.unusedVariables false

attribute [local go_sem] Oper.semAt_some

def wordV (n : Nat) : Value := .int .u32 (n : Int)
theorem infoW : (Try.prog.info? 22).map (fun i => (i.zero, i.size, i.bytes)) = some (some (.int .u32 0), 1, 4) := by kernel_rfl
theorem slw_of_owns {W : World} {B : Nat} {v : Value} {l : List Nat} (h : W.ownsRow B 22 1 v l.length (l.map wordV)) : SlW W v l := by
  rcases h.2 with ⟨rfl, hn⟩ | ⟨g, cap, cur, rfl, h2, h3, h4, _⟩
  · exact .inl ⟨none, 0, rfl, List.eq_nil_of_length_eq_zero hn⟩
  · refine .inr ⟨g, 0, cap, rfl, h4, (Array.getElem?_eq_some_iff.1 h3).1, fun j n hj => ?_⟩
    rw [Nat.zero_add, h.cellAt j (by rw [Nat.mul_one]; exact (List.getElem?_eq_some_iff.1 hj).1), List.getElem?_map, hj]; rfl
set_option maxRecDepth 100000 in
set_option maxHeartbeats 4000000 in
theorem listed_any (d : List UInt8) (hd : d.length % 4 = 0) (hsz : d.length ≤ 4000000) (w : World) :
    Calls Try.prog 30 #[.string ⟨d.toArray⟩] w fun e W' => ∃ v, e = .returned v ∧ W'.ownsRow w.heap.size 22 1 v (words d).length ((words d).map wordV) ∧ Below w.heap.size w W' := by
  obtain ⟨i0, hi, hz0, hz1, hz2⟩ := info_parts infoW
  have hwl := words_len d
  refine (callsIn_wide (n := 3)).1 ?_
  refine callsIn_of_wp_marks Try.func30 rfl trivial ?_ rfl
  simp only [Try.ntmps30, List.size_toArray, List.length_cons, List.length_nil, Nat.reduceAdd, Nat.reduceSub, Array.replicate_succ, Array.replicate_zero, List.push_toArray, List.append_toArray, List.nil_append, List.cons_append]
  gi_wp2_with (first
    | (gi_at_make; refine wpListIn_make_own _ rfl _ _ 27 rfl w.heap.size 22 i0 (.int .u32 0) 1 Try.underlying27 hi hz0 hz1 .i64 .i64 _ (d.length / 4) rfl rfl (by first | omega | simp) (by rw [hz2]; omega) (by unfold maxLen; omega) (Nat.le_refl _) ?_; intro w0 hown0 hgrow0)
    | (refine ⟨trivial, ?_⟩; gi_at_call 47; refine (wordsOf_in _ _ _).mono ?_; rintro e w' ⟨rfl, rfl⟩))
  have hs0 := hgrow0.size
  have hsz0 : w.heap.size < w0.heap.size := (hown0.lt w.heap.size rfl).2
  have bO := Boxed.new w0 27 (.slice (some ⟨w.heap.size, 0, none⟩) 0 (d.length / 4))
  have bN := Boxed.new (w0.alloc (.cells #[.slice (some ⟨w.heap.size, 0, none⟩) 0 (d.length / 4)] 27)) 9 (.string ⟨d.toArray⟩)
  rw [World.size_alloc] at bN
  have hB0 : Below w.heap.size w (w0.alloc (.cells #[.slice (some ⟨w.heap.size, 0, none⟩) 0 (d.length / 4)] 27)) := (((Below.refl _ w).grown hgrow0 (Nat.le_refl _) (fun k e => by cases e)).alloc hs0 _)
  have hown1 := hown0.alloc (.cells #[.slice (some ⟨w.heap.size, 0, none⟩) 0 (d.length / 4)] 27)
  have hB1 := hB0.alloc (by simp; omega) (.cells #[.string ⟨d.toArray⟩] 9)
  refine wpIn_rangeFunc_ownG rfl (by omega) (gf := 62) (lb := #[.pointer (some ⟨w0.heap.size + 1, 0, none⟩)]) rfl trivial (enters_of Try.func62 (by kernel_rfl) rfl)
    (words_stops 2 (by omega) (w0.heap.size + 1) d hd hsz _ (by simp) bN.cell) (fun h k => h.trans k) (fun W l o o' hl _ _ _ => Kb.putObj W l o' (by simp at hl; omega)) (Below.refl _ _) (fun _ => rfl)
    (fun pre W => ((∃ v, Boxed W w0.heap.size 27 v ∧ W.ownsRow w.heap.size 22 1 v pre.length (pre.map wordV) ∧ True) ∧ Boxed W (w0.heap.size + 1) 9 (.string ⟨d.toArray⟩)) ∧ Below w.heap.size w W)
    (fun _ _ _ => False)
    (OwnFrom.and (OwnFrom.and (Own.from (holdsRow_own w.heap.size w0.heap.size 27 22 1 (fun pre : List Nat => pre.length) (fun pre => pre.map wordV) (fun _ _ => True)) _) (Own.from (boxed_own _ _ _) _)) (ownFrom_below (Nat.le_refl _) (by simp; omega)))
    (fun _ _ _ _ _ hs _ _ => hs)
    ⟨⟨⟨_, bO.alloc _, hown1.alloc _, trivial⟩, bN⟩, hB1⟩
    (fun x => { tmps := #[.string ⟨d.toArray⟩, undef, .slice none 0 0, .pointer (some ⟨w0.heap.size, 0, none⟩), .int .u32 (x : Int), .string ⟨d.toArray⟩, .int .i64 (d.length : Int), .int .i64 ((d.length : Int) / 4), .slice (some ⟨w.heap.size, 0, none⟩) 0 (d.length / 4), .string ⟨d.toArray⟩, .func (.func 62) #[] #[.pointer (some ⟨w0.heap.size + 1, 0, none⟩)], .int .u32 (x : Int), undef, undef, undef, undef, undef], defers := [] }) ?assign ?body ?done ?stop
  case assign =>
    intro l x W K hK
    gi_wp2
    exact hK
  case body =>
    rintro l pre x W ⟨⟨⟨v, hv, hrow, _⟩, hN⟩, hB⟩ hlt
    have hc := hv.cell
    gi_wp2_with (gi_at_builtin; refine wpListIn_append_own _ rfl _ _ 27 rfl w.heap.size 22 i0 (.int .u32 0) 1 4 Try.underlying27 hi hz0 hz1 hz2 rfl (by decide) _ _ _ rfl (hrow.alloc _) ⟨W.heap.size, 0, none⟩ 1 1 [.int .u32 (x : Int)] rfl rfl (Go.cell_one_new _ _ _) (by simp [Value.oneCell']) (by unfold maxLen; omega) (by omega) (by have := hB.size; simp; omega) ?_; intro v' w1 hown' hgrow _; obtain ⟨g', cap', rfl⟩ := ownsRow_succ hown'; obtain ⟨hv1, hv2, hr2, hk2, hb2⟩ := hv.appended (by decide) hrow hB.size (by omega) hown' hgrow; have hc1 := hv1.cell; have hf1 := hv1.frozen)
    have hN1 : Boxed (w1.setCell ⟨w0.heap.size, 0, none⟩ (.slice (some ⟨g', 0, none⟩) (pre.length + 1) cap')) (w0.heap.size + 1) 9 (.string ⟨d.toArray⟩) :=
      ((hN.alloc _).kept hgrow (hN.not_row (by decide) hrow)).kept (grownBy_setCell' w1 w0.heap.size _) (by simp)
    exact ⟨hk2.from _, hN1.trans hN.symm, ⟨⟨_, hv2, by simpa [wordV] using hr2, trivial⟩, hN1⟩, hB.trans hb2⟩
  case done =>
    rintro D ys W hD rfl ⟨⟨⟨v, hv, hrow, _⟩, hN⟩, hB⟩ hK
    have hc := hv.cell
    gi_wp2
    refine ⟨by simp, .inl ⟨_, _, rfl, run_takeDeferred hK, ?_⟩⟩
    exact ⟨_, results_tmp rfl _ _ _, v, rfl, ownsRow_putObj hrow _ hK rfl, hB.trans (belowK_b (w := w) (Nat.le_refl _) W D _ _ (by simp at hD; omega) hK rfl rfl)⟩
  case stop =>
    rintro D c pre W _ _ h _
    exact h.elim
end Go.Proofs.Ytkfomhllaogplaa
