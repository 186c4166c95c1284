/-
  Contract of the document's Code: a block's instructions.
-/

import Derived.Test.YtcffpmicencfpaaGreatZD1
import Derived.Test.YtcffpmicencfpaaGreatZY2
import Derived.Test.YtcffpmicencfpaaGreatZY3
namespace Go.Proofs.YtcffpmicencfpaaGreat
open Go.RowKit Go.Lib Go.Sort Ip Bl Lv Pm
set_option linter.unusedSimpArgs false
set_option linter.unusedVariables false

theorem infoN : (Tryz.prog.info? 47).map (fun i => (i.zero, i.size, i.bytes)) = some (some (.agg #[.int .i64 0, .int .i64 0, .int .i64 0, .int .i64 0, .int .i64 0]), 5, 40) := by kernel_rfl
theorem cell_fiveN (w : World) (a b c d e : Value) (t : TypeId) : ∀ j u, [a, b, c, d, e][j]? = some u → (w.alloc (.cells #[a, b, c, d, e] t)).cell? ((⟨w.heap.size, 0, none⟩ : Addr).add j) = some u := by
  intro j u hj
  match j, hj with
  | 0, hj => simp at hj; subst hj; simp [Addr.add]
  | 1, hj => simp at hj; subst hj; simp [Addr.add]
  | 2, hj => simp at hj; subst hj; simp [Addr.add]
  | 3, hj => simp at hj; subst hj; simp [Addr.add]
  | 4, hj => simp at hj; subst hj; simp [Addr.add]
theorem owns_emptyN (W : World) (B : Nat) (hB : B ≤ W.heap.size) : (W.alloc (.cells #[] 47)).ownsRow B 47 5 (.slice (some ⟨W.heap.size, 0, none⟩) 0 0) 0 [] :=
  ⟨rfl, .inr ⟨W.heap.size, 0, #[], rfl, hB, heap_alloc_new W _, Nat.le_refl _, by decide, rfl, rfl⟩⟩
theorem own_lowN {W : World} {B b : Nat} {t : TypeId} {k : Nat} {v : Value} {n : Nat} {xs : List Value} (h : W.ownsRow B t k v n xs) (hb : b ≤ B) : W.ownsRow b t k v n xs := by
  refine ⟨h.1, ?_⟩
  rcases h.2 with h0 | ⟨g, cap, cur, h1, h2, h3⟩
  · exact .inl h0
  · exact .inr ⟨g, cap, cur, h1, Nat.le_trans hb h2, h3⟩
/-- While Code is at work: the image's box, the block's, and the instructions. -/
structure Ce (w : World) (i : Img) (u : Value) (x y : Nat) (vo : Value) (l : List Ins) (W : World) : Prop where
  ib : W.heap[w.heap.size]? = some (.cells (imgC i u) 25 (0, 0))
  bb : W.heap[w.heap.size + 1]? = some (.cells #[.int .u32 (x : Int), .int .i64 (y : Int)] 43 (0, 0))
  row : W.ownsRow (w.heap.size + 2) 47 5 vo l.length (csN l)
  low : Below w.heap.size w W
  big : w.heap.size + 2 ≤ W.heap.size
variable {w : World} {i : Img} {u : Value} {x y : Nat} {vo : Value} {l : List Ins} {W W' : World}
theorem Ce.ext (h : Ce w i u x y vo l W) (hb : Below W.heap.size W W') : Ce w i u x y vo l W' :=
  ⟨keptN hb h.ib, keptN hb h.bb, h.row.kept (grown_of_below hb) (by cases vo.ownBlock <;> simp), h.low.trans (hb.mono h.low.size), Nat.le_trans h.big hb.size⟩
theorem Ce.app (h : Ce w i u x y vo l W) {o : Obj} {vo' : Value} {z : Ins} (hown : W'.ownsRow (w.heap.size + 2) 47 5 vo' (l.length + 1) (csN l ++ [.int .i64 z.op, .int .i64 z.rd, .int .i64 z.rs1, .int .i64 z.rs2, .int .i64 z.imm])) (hg : (W.alloc o).grownBy W' vo.ownBlock) : Ce w i u x y vo' (l ++ [z]) W' := by
  have ha := h.ext ((Below.refl _ W).alloc (Nat.le_refl _) o)
  have hbig := h.big
  have hne : ∀ k, k < w.heap.size + 2 → some k ≠ vo.ownBlock := fun k hk e => by have := (h.row.lt k e.symm).1; omega
  refine ⟨(hg.block _ (by rw [World.size_alloc]; omega) (hne _ (by omega))).trans ha.ib, (hg.block _ (by rw [World.size_alloc]; omega) (hne _ (by omega))).trans ha.bb, ?_, ha.low.grown hg (by rw [World.size_alloc]; omega) (fun k e => by have := (h.row.lt k e).1; omega), Nat.le_trans ha.big hg.size⟩
  rw [csN_app]
  simpa [csN] using hown
theorem Ce.set (h : Ce w i u x y vo l W) {g : Nat} (hlo : w.heap.size + 2 ≤ g) (hne : vo.ownBlock ≠ some g) (k : Nat) (z : Value) : Ce w i u x y vo l (W.setCell ⟨g, k, none⟩ z) :=
  ⟨(Below.heap_setCell _ _ _ _ (by show w.heap.size ≠ g; omega)).trans h.ib, (Below.heap_setCell _ _ _ _ (by show w.heap.size + 1 ≠ g; omega)).trans h.bb, h.row.kept (grown_setCell W ⟨g, k, none⟩ z) (.inr hne), h.low.setCell (by show w.heap.size ≤ g; omega) _, by have := h.big; simpa using this⟩
theorem code_take (i : Img) (b : Nat × Nat) {j : Nat} (hj : j < b.2) : (codeI i b).take (j + 1) = (codeI i b).take j ++ [insA i ((b.1 + 4 * j) % 4294967296)] := by
  rw [List.take_add_one, code_get i b hj]; rfl
set_option maxHeartbeats 4000000 in
set_option maxRecDepth 100000 in
theorem rcode_any (i : Img) (v : Value) (x y : Nat) (hy : y ≤ 1000000) (hi : i.ok) (w : World) (hS : SlW w v i.words) :
    Calls Tryz.prog 13 #[imgV i v, .agg #[.int .u32 (x : Int), .int .i64 (y : Int)]] w fun e W' => ∃ u, e = .returned u ∧ W'.ownsRow w.heap.size 47 5 u y (csN (codeI i (x, y))) ∧ Below w.heap.size w W' := by
  obtain ⟨i0, hii, hz0, hz1, hz2⟩ := info_parts infoN
  obtain ⟨p0, q0, rfl, _⟩ := hS.len
  have hst : Ce w i (.slice p0 i.words.length q0) x y (.slice (some ⟨w.heap.size + 2, 0, none⟩) 0 0) [] (((w.alloc (.cells (imgC i (.slice p0 i.words.length q0)) 25)).alloc (.cells #[.int .u32 (x : Int), .int .i64 (y : Int)] 43)).alloc (.cells #[] 47)) := by
    have h1 := heap_alloc_new w (.cells (imgC i (.slice p0 i.words.length q0)) 25)
    have h2 := heap_alloc_new (w.alloc (.cells (imgC i (.slice p0 i.words.length q0)) 25)) (.cells #[.int .u32 (x : Int), .int .i64 (y : Int)] 43)
    have h3 := owns_emptyN ((w.alloc (.cells (imgC i (.slice p0 i.words.length q0)) 25)).alloc (.cells #[.int .u32 (x : Int), .int .i64 (y : Int)] 43)) (w.heap.size + 2) (by simp)
    rw [World.size_alloc] at h2
    rw [World.size_alloc, World.size_alloc] at h3
    exact ⟨keptN ((Below.refl _ _).alloc (Nat.le_refl _) _) (keptN ((Below.refl _ _).alloc (Nat.le_refl _) _) h1), keptN ((Below.refl _ _).alloc (Nat.le_refl _) _) h2, h3, (((Below.refl _ w).alloc (Nat.le_refl _) _).alloc (by simp) _).alloc (by simp; omega) _, by simp⟩
  have HST := hideE hst
  have HS := hideE hS
  have HI := hideE hi
  clear hS hi hst
  simp only [imgV]
  go_enter Tryz.func13, Tryz.ntmps13
  go_upto_region 3 with fail
  refine gen_world (Ce w i (.slice p0 i.words.length q0) x y (.slice (some ⟨w.heap.size + 2, 0, none⟩) 0 0) []) HST.out ?_
  clear HST
  intro wa h1
  go_loopg [5, 6] y (fun q s5 j W => ∃ k : Nat, k + q = y ∧ j = .int .i64 (k : Int) ∧ Ce w i (.slice p0 i.words.length q0) x y s5 ((codeI i (x, y)).take k) W)
  case atStart => exact ⟨0, by omega, rfl, h1⟩
  case round =>
    clear h1
    obtain ⟨k, hkq, rfl, h2⟩ := hrel
    have hcl := code_len i (x, y)
    simp only at hcl
    have hrow := h2.row
    rw [List.length_take, hcl, Nat.min_eq_left (by omega)] at hrow
    obtain ⟨pv, cv, rfl⟩ := own_slice' hrow
    have HCL := hideE hcl
    obtain ⟨n0, n1⟩ : wr.cell? ⟨w.heap.size + 1, 0, none⟩ = some (.int .u32 (x : Int)) ∧ wr.cell? ⟨w.heap.size + 1, 1, none⟩ = some (.int .i64 (y : Int)) := by
      have hbb := h2.bb
      unfold World.cell?; simp [hbb]
    have hib := h2.ib
    have hsz := h2.big
    have H2 := hideE h2
    have HRW := hideE hrow
    clear hcl h2 hrow
    cases gk with
    | zero =>
      obtain rfl : k = y := by omega
      have hk : ¬ ((k : Int) < (k : Int)) := by omega
      clear hib
      go_wp2_with fail
      go_ret
      have hr := HRW.out
      rw [List.take_of_length_le (by rw [HCL.out]; exact Nat.le_refl _)] at hr
      exact ⟨_, rfl, own_lowN hr (by omega), H2.out.low⟩
    | succ q =>
      have hk : (k : Int) < (y : Int) := by omega
      have hwk : IntKind.i64.wrap ((k : Int) + 1) = (k : Int) + 1 := wrE (by omega) (by omega)
      have hw4 : IntKind.i64.wrap (4 * (k : Int)) = 4 * (k : Int) := wrE (by omega) (by omega)
      obtain ⟨A, hA⟩ : ∃ A, (x + 4 * k) % 4294967296 = A := ⟨_, rfl⟩
      have hAl : A < 4294967296 := by omega
      have hle : ((x : Int) + 4 * (k : Int)) % 4294967296 = (A : Int) := by omega
      obtain ⟨X, hX⟩ : ∃ X, insA i A = X := ⟨_, rfl⟩
      obtain ⟨op, rd, rs1, rs2, imm⟩ := X
      obtain ⟨ER, hER⟩ : ∃ ER, errA i A = ER := ⟨_, rfl⟩
      have HAt := hideE (fun W (hW : Below w.heap.size w W) => rat8_lit i (.slice p0 i.words.length q0) A hAl HI.out op rd rs1 rs2 imm hX ER hER W (HS.out.below hW))
      have HTK : Hid ((codeI i (x, y)).take (k + 1) = (codeI i (x, y)).take k ++ [⟨op, rd, rs1, rs2, imm⟩]) := by
        show _ = _
        rw [code_take i (x, y) (by show k < y; omega)]
        simp only
        rw [hA, hX]
      have hlw := H2.out.low
      clear hA hX hER
      go_upto_region 6 with (first
        | (refine wpList_load_row rfl 25 _ rfl w.heap.size rfl _ _ _ _ hib Tryz.underlying25 rfl (by kernel_rfl) ?_)
        | (go_at_call 15; refine (HAt.out _ hlw).mono ?_; rintro e wh ⟨rfl, hbh⟩))
      have h3 := H2.out.ext hbh
      refine gen_world (fun W => Ce w i (.slice p0 i.words.length q0) x y (.slice pv k cv) ((codeI i (x, y)).take k) W ∧ W.heap[wh.heap.size]? = some (.cells #[.int .i64 op, .int .i64 rd, .int .i64 rs1, .int .i64 rs2, .int .i64 imm] 47 (0, 0))) ⟨h3.ext ((Below.refl _ _).alloc (Nat.le_refl _) _), heap_alloc_new wh _⟩ ?_
      obtain ⟨gx, hgx⟩ : ∃ g, wh.heap.size = g := ⟨_, rfl⟩
      rw [hgx]
      clear hgx h3 hib H2 HRW HAt hlw hbh n0 n1 hsz
      rintro Wc ⟨h4, hxb⟩
      have hcl := HCL.out
      have hrow := h4.row
      rw [List.length_take, hcl, Nat.min_eq_left (by omega)] at hrow
      have hsz := h4.big
      have H4 := hideE h4
      clear h4 hcl
      go_wp2_with (first
        | (refine wpList_load_row rfl 47 _ rfl gx rfl _ _ _ _ hxb Tryz.underlying47 rfl (by kernel_rfl) ?_)
        | (at_builtin; refine wpList_append_own _ rfl _ _ 40 rfl (w.heap.size + 2) 47 i0 (.agg #[.int .i64 0, .int .i64 0, .int .i64 0, .int .i64 0, .int .i64 0]) 5 40 Tryz.underlying40 hii hz0 hz1 hz2 rfl (by decide) _ _ _ rfl (hrow.alloc _) ⟨_, 0, none⟩ 1 1 [.int .i64 op, .int .i64 rd, .int .i64 rs1, .int .i64 rs2, .int .i64 imm] rfl rfl (cell_fiveN _ _ _ _ _ _ _) (by simp [Value.oneCell']) (by unfold maxLen; omega) (by omega) (by simp; omega) ?_; intro v2 w3 hown2 hgrow _))
      go_roundg q
      case measure => omega
      case rel => exact ⟨k + 1, by omega, by simp, by rw [HTK.out]; exact H4.out.app (by rw [List.length_take, HCL.out, Nat.min_eq_left (by omega)]; exact hown2) hgrow⟩
end Go.Proofs.YtcffpmicencfpaaGreat
