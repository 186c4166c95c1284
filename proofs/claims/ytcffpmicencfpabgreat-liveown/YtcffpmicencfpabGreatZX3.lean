/-
  Contracts of package live: listed, found.
  Contract of package live: found (are these a text's blocks?).
-/

import Derived.Test.YtcffpmicencfpabGreatZC7
import Derived.Test.YtcffpmicencfpabGreatZX2
namespace Go.Proofs.YtcffpmicencfpabGreat
open Go.RowKit Go.Lib Go.Sort Go.Maps Ip Bl Lv Pm
set_option linter.unusedSimpArgs false
set_option linter.unusedVariables false

theorem at_good (i : Img) (a : Nat) (ha : a < 4294967296) (hi : i.ok) (h0 : errA i a = 0) : ∃ x : BitVec 32, insW x = insA i a ∧ errW x = 0 ∧ ∀ (v : Value) (W : World), SlW W v i.words →
    Calls Tryz.prog 45 #[imgV i v, .int .u32 (a : Int)] W fun e w' => e = .returned (.tuple #[.int .u32 (x.toNat : Int), .bool true]) ∧ Below W.heap.size W w' := by
  have hh := hitA_of (i := i) ha
  have hB : atB i (adrB a) = true := by
    cases e : atB i (adrB a) with
    | true => rfl
    | false =>
      unfold errA at h0
      rw [hh, e, if_neg (by simp)] at h0; cases h0
  have hwl : atW i (adrB a) < 4294967296 := by
    obtain ⟨n, hn, e, _⟩ := at_yes hB
    rw [e]; exact hi.2.2.2 n (List.mem_of_getElem? hn)
  refine ⟨wordA i a, ?_, ?_, fun v W hS => ?_⟩
  · unfold insA; rw [hh, hB, if_pos rfl]
  · unfold errA at h0; rwa [hh, hB, if_pos rfl] at h0
  · have h := at_any i v (adrB a) hi W hS
    rw [adrB_nat ha, hB] at h
    have e : ((wordA i a).toNat : Int) = (atW i (adrB a) : Int) := by unfold wordA; rw [adrB_nat hwl]
    rw [e]; exact h
theorem csN_put (l : List Ins) {k : Nat} (hk : k < l.length) (X : Ins) : (((((csN l).set (k * 5) (.int .i64 X.op)).set (k * 5 + 1) (.int .i64 X.rd)).set (k * 5 + 2) (.int .i64 X.rs1)).set (k * 5 + 3) (.int .i64 X.rs2)).set (k * 5 + 4) (.int .i64 X.imm) = csN (l.set k X) := by
  induction l generalizing k with
  | nil => simp at hk
  | cons a l ih =>
    have e : ∀ b : Ins, csN (b :: l) = [.int .i64 b.op, .int .i64 b.rd, .int .i64 b.rs1, .int .i64 b.rs2, .int .i64 b.imm] ++ csN l := fun b => by simp [csN]
    cases k with
    | zero => rw [List.set_cons_zero, e, e]; simp
    | succ k =>
      have q : ∀ (xs : List Value) (j : Nat) (z : Value), ([Value.int .i64 a.op, .int .i64 a.rd, .int .i64 a.rs1, .int .i64 a.rs2, .int .i64 a.imm] ++ xs).set ((k + 1) * 5 + j) z = [Value.int .i64 a.op, .int .i64 a.rd, .int .i64 a.rs1, .int .i64 a.rs2, .int .i64 a.imm] ++ xs.set (k * 5 + j) z := fun xs j z => by
        rw [List.set_append_right _ _ (by simp; omega)]
        have e0 : (k + 1) * 5 + j - [Value.int .i64 a.op, .int .i64 a.rd, .int .i64 a.rs1, .int .i64 a.rs2, .int .i64 a.imm].length = k * 5 + j := by simp only [List.length_cons, List.length_nil]; omega
        rw [e0]
      have q0 := fun xs z => q xs 0 z
      simp only [Nat.add_zero] at q0
      have e2 : csN ((a :: l).set (k + 1) X) = [.int .i64 a.op, .int .i64 a.rd, .int .i64 a.rs1, .int .i64 a.rs2, .int .i64 a.imm] ++ csN (l.set k X) := by rw [List.set_cons_succ]; simp [csN]
      rw [e a, e2, q0, q, q, q, q, ih (by simpa using hk)]
theorem owns_five {W : World} {B t g n c : Nat} {xs : List Value} (h : W.ownsRow B t 5 (.slice (some ⟨g, 0, none⟩) n c) n xs) (o : Nat) (a b d e f : Value) :
    (W.setCells g o [a, b, d, e, f]).ownsRow B t 5 (.slice (some ⟨g, 0, none⟩) n c) n (((((xs.set o a).set (o + 1) b).set (o + 2) d).set (o + 3) e).set (o + 4) f) ∧ W.grownBy (W.setCells g o [a, b, d, e, f]) (some g) := by
  obtain ⟨h1, g1⟩ := h.stored o a
  obtain ⟨h2, g2⟩ := h1.stored (o + 1) b
  obtain ⟨h3, g3⟩ := h2.stored (o + 2) d
  obtain ⟨h4, g4⟩ := h3.stored (o + 3) e
  obtain ⟨h5, g5⟩ := h4.stored (o + 4) f
  exact ⟨h5, (((g1.trans g2).trans g3).trans g4).trans g5⟩
variable {w : World} {i : Img} {u : Value} {x y : Nat} {l : List Ins} {W : World}
theorem Ce.put {g n c : Nat} (h : Ce w i u x y (.slice (some ⟨g, 0, none⟩) n c) l W) (hn : l.length = n) {k : Nat} (hk : k < n) (X : Ins) :
    Ce w i u x y (.slice (some ⟨g, 0, none⟩) n c) (l.set k X) (W.setCells g (k * 5) [.int .i64 X.op, .int .i64 X.rd, .int .i64 X.rs1, .int .i64 X.rs2, .int .i64 X.imm]) := by
  have hr := h.row
  rw [hn] at hr
  obtain ⟨h1, h2⟩ := owns_five hr (k * 5) (.int .i64 X.op) (.int .i64 X.rd) (.int .i64 X.rs1) (.int .i64 X.rs2) (.int .i64 X.imm)
  rw [csN_put l (by omega) X] at h1
  have hlt := hr.lt g rfl
  exact ⟨(h2.block _ (by omega) (by intro e; injection e; omega)).trans h.ib, (h2.block _ (by omega) (by intro e; injection e; omega)).trans h.bb, by rw [List.length_set, hn]; exact h1, h.low.grown h2 (by have := h.big; omega) (fun k e => by injection e; omega), Nat.le_trans h.big h2.size⟩
theorem Ce.spots {g n c : Nat} (h : Ce w i u x y (.slice (some ⟨g, 0, none⟩) n c) l W) (hn : l.length = n) {k : Nat} (hk : k < n) : ∃ a b d e f : Value, W.cell? ⟨g, k * 5, none⟩ = some a ∧ W.cell? ⟨g, k * 5 + 1, none⟩ = some b ∧ W.cell? ⟨g, k * 5 + 2, none⟩ = some d ∧ W.cell? ⟨g, k * 5 + 3, none⟩ = some e ∧ W.cell? ⟨g, k * 5 + 4, none⟩ = some f ∧
    W.frozen? ⟨g, k * 5, none⟩ = false ∧ W.frozen? ⟨g, k * 5 + 1, none⟩ = false ∧ W.frozen? ⟨g, k * 5 + 2, none⟩ = false ∧ W.frozen? ⟨g, k * 5 + 3, none⟩ = false ∧ W.frozen? ⟨g, k * 5 + 4, none⟩ = false := by
  have hr := h.row
  rw [hn] at hr
  obtain ⟨X, hX⟩ : ∃ X, l[k]? = some X := ⟨l[k]'(by omega), List.getElem?_eq_getElem (by omega)⟩
  obtain ⟨a, b, d, e, f⟩ := csN_at l k X hX
  exact ⟨_, _, _, _, _, (hr.cellAt _ (by omega)).trans a, (hr.cellAt _ (by omega)).trans b, (hr.cellAt _ (by omega)).trans d, (hr.cellAt _ (by omega)).trans e, (hr.cellAt _ (by omega)).trans f, hr.frozenAt _, hr.frozenAt _, hr.frozenAt _, hr.frozenAt _, hr.frozenAt _⟩
theorem makeN (N : Nat) (hN : N ≤ 1000000) : ∃ M : Array Value, (∀ W : World, (Instr.makeSlice 52 (.int .i64 (N : Int)) (.int .i64 (N : Int))).run Tryz.prog W = .ok (.slice (some ⟨W.heap.size, 0, none⟩) N N) (W.alloc (.cells M 38))) ∧ M.toList = csN (List.replicate N noIns) := by
  obtain ⟨i0, hi, hz0, hz1, hz2⟩ := info_parts infoN
  refine ⟨madeCells (Value.agg #[.int .i64 0, .int .i64 0, .int .i64 0, .int .i64 0, .int .i64 0]).cells (N * i0.size), fun W => ?_, ?_⟩
  · have h := run_make (P := Tryz.prog) W 52 38 i0 (.agg #[.int .i64 0, .int .i64 0, .int .i64 0, .int .i64 0, .int .i64 0]) Tryz.underlying52 hi hz0 .i64 .i64 (N : Int) (N : Int) (by omega) (by omega) (by rw [hz2]; omega) (by omega)
    simpa using h
  · rw [hz1]
    apply List.ext_getElem?
    intro j
    have e : List.replicate N noIns = (List.range N).map (fun _ => noIns) := by rw [List.map_const', List.length_range]
    by_cases hj : j < N * 5
    · rw [e, csN_flat (fun _ => noIns) N j hj]
      have hr : j % 5 = 0 ∨ j % 5 = 1 ∨ j % 5 = 2 ∨ j % 5 = 3 ∨ j % 5 = 4 := by omega
      rcases hr with h | h | h | h | h <;> simp [madeCells, hj, h, noIns, Value.cells]
    · have h2 : (csN (List.replicate N noIns))[j]? = none := List.getElem?_eq_none (by rw [csN_len, List.length_replicate]; omega)
      rw [h2]
      simp [madeCells, hj]
def fillI (i : Img) (x y k : Nat) : List Ins := (codeI i (x, y)).take k ++ List.replicate (y - k) noIns
theorem fill_len (i : Img) (x y : Nat) {k : Nat} (hk : k ≤ y) : (fillI i x y k).length = y := by
  unfold fillI; rw [List.length_append, List.length_take, code_len, List.length_replicate]; simp; omega
theorem fill_zero (i : Img) (x y : Nat) : fillI i x y 0 = List.replicate y noIns := by unfold fillI; simp
theorem fill_end (i : Img) (x y : Nat) : fillI i x y y = codeI i (x, y) := by
  unfold fillI; rw [List.take_of_length_le (by rw [code_len]; exact Nat.le_refl _), Nat.sub_self]; simp
theorem fill_set (i : Img) (x y : Nat) {k : Nat} (hk : k < y) : (fillI i x y k).set k (insA i ((x + 4 * k) % 4294967296)) = fillI i x y (k + 1) := by
  unfold fillI
  have h1 : ((codeI i (x, y)).take k).length = k := by rw [List.length_take, code_len]; simp; omega
  rw [List.set_append_right _ _ (by omega), h1, Nat.sub_self, code_take i (x, y) (by show k < y; exact hk), show y - k = (y - (k + 1)) + 1 by omega, List.replicate_succ, List.set_cons_zero, List.append_assoc]; rfl
set_option maxHeartbeats 8000000 in
set_option maxRecDepth 100000 in
theorem llisted_any (i : Img) (v : Value) (x y : Nat) (hy : y ≤ 1000000) (hi : i.ok) (hgood : ∀ j, j < y → errA i ((x + 4 * j) % 4294967296) = 0) (w : World) (hS : SlW w v i.words) :
    Calls Tryz.prog 27 #[imgV i v, .agg #[.int .u32 (x : Int), .int .i64 (y : Int)]] w fun e W' => ∃ u, e = .returned u ∧ W'.ownsRow w.heap.size 38 5 u y (csN (codeI i (x, y))) ∧ Below w.heap.size w W' := by
  obtain ⟨p0, q0, rfl, _⟩ := hS.len
  obtain ⟨M, hmk, hM⟩ := makeN y hy
  have hst : Ce w i (.slice p0 i.words.length q0) x y (.slice (some ⟨w.heap.size + 2, 0, none⟩) y y) (fillI i x y 0) (((w.alloc (.cells (imgC i (.slice p0 i.words.length q0)) 26)).alloc (.cells #[.int .u32 (x : Int), .int .i64 (y : Int)] 45)).alloc (.cells M 38)) := by
    have h1 := heap_alloc_new w (.cells (imgC i (.slice p0 i.words.length q0)) 26)
    have h2 := heap_alloc_new (w.alloc (.cells (imgC i (.slice p0 i.words.length q0)) 26)) (.cells #[.int .u32 (x : Int), .int .i64 (y : Int)] 45)
    have hms : M.size = y * 5 := by rw [← Array.length_toList, hM, csN_len, List.length_replicate]
    have h3 := World.ownsRow_lit (base := w.heap.size + 2) (e := 38) (size := 5) ((w.alloc (.cells (imgC i (.slice p0 i.words.length q0)) 26)).alloc (.cells #[.int .u32 (x : Int), .int .i64 (y : Int)] 45)) M y (by simp) (by unfold maxLen; omega) hms
    rw [World.size_alloc] at h2
    rw [World.size_alloc, World.size_alloc, hM] at h3
    rw [fill_zero]
    exact ⟨keptN ((Below.refl _ _).alloc (Nat.le_refl _) _) (keptN ((Below.refl _ _).alloc (Nat.le_refl _) _) h1), keptN ((Below.refl _ _).alloc (Nat.le_refl _) _) h2, by rw [List.length_replicate]; exact h3, (((Below.refl _ w).alloc (Nat.le_refl _) _).alloc (by simp) _).alloc (by simp; omega) _, by simp⟩
  have HST := hideE hst
  have HS := hideE hS
  have HI := hideE hi
  have HG := hideE hgood
  clear hS hi hst hM hgood
  simp only [imgV]
  go_enter Tryz.func27, Tryz.ntmps27
  go_upto_region 3 with fail
  refine gen_world (Ce w i (.slice p0 i.words.length q0) x y (.slice (some ⟨w.heap.size + 2, 0, none⟩) y y) (fillI i x y 0)) HST.out ?_
  clear HST hmk
  intro wa h1
  obtain ⟨g, hg⟩ : ∃ g, w.heap.size + 2 = g := ⟨_, rfl⟩
  rw [hg] at h1 ⊢
  have HGG := hideE hg
  clear hg
  go_loopg [14] y (fun q j W => ∃ k : Nat, k + q = y ∧ j = .int .i64 (k : Int) ∧ Ce w i (.slice p0 i.words.length q0) x y (.slice (some ⟨g, 0, none⟩) y y) (fillI i x y k) W)
  case atStart => exact ⟨0, by omega, rfl, h1⟩
  case round =>
    clear h1
    obtain ⟨k, hkq, rfl, h2⟩ := hrel
    cases gk with
    | zero =>
      obtain rfl : k = y := by omega
      have hk : ¬ ((k : Int) < (k : Int)) := by omega
      have hrow := h2.row
      have hlow := h2.low
      rw [fill_end, code_len] at hrow
      clear h2
      go_wp2_with fail
      go_ret
      exact ⟨_, rfl, own_lowN hrow (by omega), hlow⟩
    | succ q =>
      have hk : (k : Int) < (y : Int) := by omega
      have hk0 : (0 : Int) ≤ (k : Int) := by omega
      have hwk : IntKind.i64.wrap ((k : Int) + 1) = (k : Int) + 1 := wrE (by omega) (by omega)
      have hkm : (k : Int) % 4294967296 = (k : Int) := by omega
      obtain ⟨n0, n1⟩ : wr.cell? ⟨w.heap.size + 1, 0, none⟩ = some (.int .u32 (x : Int)) ∧ wr.cell? ⟨w.heap.size + 1, 1, none⟩ = some (.int .i64 (y : Int)) := by
        have hbb := h2.bb
        unfold World.cell?; simp [hbb]
      have hib := h2.ib
      have hlw := h2.low
      obtain ⟨A, hA⟩ : ∃ A, (x + 4 * k) % 4294967296 = A := ⟨_, rfl⟩
      have hAl : A < 4294967296 := by omega
      have hle : ((x : Int) + 4 * (k : Int)) % 4294967296 = (A : Int) := by omega
      have hgd := HG.out k (by omega)
      rw [hA] at hgd
      obtain ⟨X, hX1, hX2, hX3⟩ := at_good i A hAl HI.out hgd
      obtain ⟨Y, hY⟩ : ∃ Y, insA i A = Y := ⟨_, rfl⟩
      have HAt := hideE (fun W (hW : Below w.heap.size w W) => hX3 _ W (HS.out.below hW))
      have HDc := hideE (fun W => decode_w X Y (hX1.trans hY) hX2 W)
      have HFS := hideE (fill_set i x y (k := k) (by omega))
      rw [hA, hY] at HFS
      have H2 := hideE h2
      obtain ⟨op, rd, rs1, rs2, imm⟩ := Y
      simp only [imgV] at HAt
      clear h2 hA hgd hX1 hX2 hX3 hY
      go_upto_region 6 with (first
        | (refine wpList_load_row rfl 26 _ rfl w.heap.size rfl _ _ _ _ hib Tryz.underlying26 rfl (by kernel_rfl) ?_)
        | (go_at_call 45; refine (HAt.out _ hlw).mono ?_; rintro e wh ⟨rfl, hbh⟩))
      refine gen_world (Ce w i (.slice p0 i.words.length q0) x y (.slice (some ⟨g, 0, none⟩) y y) (fillI i x y k)) (H2.out.ext hbh) ?_
      clear hib hlw H2 HAt n0 n1 hbh
      intro wb h3
      have H3 := hideE h3
      clear h3
      go_wp2_with (go_at_call 46; refine (HDc.out _).mono ?_; rintro e wi ⟨rfl, hbi⟩; obtain ⟨a0, a1, a2, a3, a4, d0, d1, d2, d3, d4, f0, f1, f2, f3, f4⟩ := (H3.out.ext hbi).spots (fill_len i x y (k := k) (by omega)) (k := k) (by omega))
      go_roundg q
      case measure => omega
      case rel => exact ⟨k + 1, by omega, by simp, by rw [← HFS.out]; exact (H3.out.ext hbi).put (fill_len i x y (by omega)) (by omega) _⟩
end Go.Proofs.YtcffpmicencfpabGreat
namespace Go.Proofs.YtcffpmicencfpabGreat
open Go.RowKit Go.Lib Go.Sort Go.Maps Ip Bl Lv Pm
set_option linter.unusedSimpArgs false
set_option linter.unusedVariables false

/-- While found is at work: the image's box, the entries. -/
structure Fo (w : World) (i : Img) (u : Value) (g n : Nat) (es : List Nat) (W : World) : Prop where
  ib : W.heap[w.heap.size]? = some (.cells (imgC i u) 26 (0, 0))
  ra : W.ownsRow (w.heap.size + 1) 22 1 (.slice (some ⟨g, 0, none⟩) n n) n (es.map wordV)
  low : Below w.heap.size w W
  big : w.heap.size + 1 ≤ W.heap.size
variable {w : World} {i : Img} {u : Value} {g n : Nat} {es : List Nat} {W W' : World}
theorem Fo.ext (h : Fo w i u g n es W) (hb : Below W.heap.size W W') : Fo w i u g n es W' := ⟨keptN hb h.ib, kept_below h.ra hb, h.low.trans (hb.mono h.low.size), Nat.le_trans h.big hb.size⟩
theorem Fo.put (h : Fo w i u g n es W) (k z : Nat) : Fo w i u g n (es.set k z) (W.setCell ⟨g, k, none⟩ (.int .u32 (z : Int))) := by
  have hlt := h.ra.lt g rfl
  obtain ⟨h1, h2⟩ := h.ra.stored k (.int .u32 (z : Int))
  have e : (es.map wordV).set k (.int .u32 (z : Int)) = (es.set k z).map wordV := by rw [List.map_set]; rfl
  rw [e] at h1
  exact ⟨(Below.heap_setCell _ _ _ _ (by show w.heap.size ≠ g; omega)).trans h.ib, h1, h.low.grown h2 h.low.size (fun k e => by injection e; omega), Nat.le_trans h.big h2.size⟩
def fillE (l : List (Nat × Nat)) (n k : Nat) : List Nat := (l.map Prod.fst).take k ++ List.replicate (n - k) 0
theorem fillE_zero (l : List (Nat × Nat)) (n : Nat) : fillE l n 0 = List.replicate n 0 := by unfold fillE; simp
theorem fillE_end (l : List (Nat × Nat)) : fillE l l.length l.length = l.map Prod.fst := by
  unfold fillE; rw [List.take_of_length_le (by rw [List.length_map]; exact Nat.le_refl _), Nat.sub_self]; simp
theorem fillE_len (l : List (Nat × Nat)) {n k : Nat} (hn : l.length = n) (hk : k ≤ n) : (fillE l n k).length = n := by
  unfold fillE; rw [List.length_append, List.length_take, List.length_map, List.length_replicate]; omega
theorem fillE_put (l : List (Nat × Nat)) {n k : Nat} (hn : l.length = n) (hk : k < n) {b : Nat × Nat} (hb : l[k]? = some b) : (fillE l n k).set k b.1 = fillE l n (k + 1) := by
  unfold fillE
  have h1 : ((l.map Prod.fst).take k).length = k := by rw [List.length_take, List.length_map]; omega
  rw [List.set_append_right _ _ (by omega), h1, Nat.sub_self, show n - k = (n - (k + 1)) + 1 by omega, List.replicate_succ, List.set_cons_zero, List.take_add_one, List.getElem?_map, hb, List.append_assoc]; rfl
set_option maxHeartbeats 8000000 in
set_option maxRecDepth 100000 in
theorem found_any (i : Img) (v vl : Value) (l : List (Nat × Nat)) (hl : l.length ≤ 1000) (hlt : ∀ b ∈ l, b.1 < 4294967296) (hi : i.ok) (w : World) (hS : SlW w v i.words) (hB : SlB w vl l) :
    Calls Tryz.prog 13 #[imgV i v, vl] w fun e W' => ∃ R : Bool, e = .returned (.bool R) ∧ (R = true ↔ rightP i l) ∧ Below w.heap.size w W' := by
  obtain ⟨p0, q0, rfl, _⟩ := hS.len
  obtain ⟨pb, qb, rfl⟩ := hB.len
  obtain ⟨n1, hn1⟩ : ∃ n, l.length = n := ⟨_, rfl⟩
  rw [hn1] at hB hl
  rw [hn1]
  have HN1 := hideE hn1
  obtain ⟨M, hmk, hM⟩ := makeU n1 hl
  have hst : Fo w i (.slice p0 i.words.length q0) (w.heap.size + 1) n1 (fillE l n1 0) ((w.alloc (.cells (imgC i (.slice p0 i.words.length q0)) 26)).alloc (.cells M 22)) := by
    have h1 := heap_alloc_new w (.cells (imgC i (.slice p0 i.words.length q0)) 26)
    have e0 : natL (List.replicate n1 (BitVec.ofNat 32 0)) = List.replicate n1 0 := by unfold natL; rw [List.map_replicate]; rfl
    have h3 := owns_made hM (by rw [List.length_map, natL_len, List.length_replicate]) hl (w.alloc (.cells (imgC i (.slice p0 i.words.length q0)) 26)) (B0 := w.heap.size + 1) (by simp)
    rw [World.size_alloc, e0] at h3
    rw [fillE_zero]
    exact ⟨keptN ((Below.refl _ _).alloc (Nat.le_refl _) _) h1, h3, ((Below.refl _ w).alloc (Nat.le_refl _) _).alloc (by simp) _, by simp⟩
  have HST := hideE hst
  have HS := hideE hS
  have HSL := hideE hB
  have HI := hideE hi
  have HLT := hideE hlt
  clear hS hB hi hlt hn1 hst hM
  simp only [imgV]
  go_enter Tryz.func13, Tryz.ntmps13
  go_upto_region 3 with fail
  refine gen_world (Fo w i (.slice p0 i.words.length q0) (w.heap.size + 1) n1 (fillE l n1 0)) HST.out ?_
  clear HST hmk
  intro wa h1
  obtain ⟨g, hg⟩ : ∃ g, w.heap.size + 1 = g := ⟨_, rfl⟩
  rw [hg] at h1 ⊢
  clear hg
  go_loopg [15] n1 (fun q j W => ∃ k : Nat, k + q = n1 ∧ j = .int .i64 (k : Int) ∧ Fo w i (.slice p0 i.words.length q0) g n1 (fillE l n1 k) W)
  case atStart => exact ⟨0, by omega, rfl, h1⟩
  case round =>
    clear h1
    obtain ⟨k, hkq, rfl, h2⟩ := hrel
    have hTw := h2.low
    cases gk with
    | zero =>
      obtain rfl : k = n1 := by omega
      have hk : ¬ ((k : Int) < (k : Int)) := by omega
      have hrow := h2.ra
      have e0 : fillE l k k = l.map Prod.fst := by have := fillE_end l; rwa [HN1.out] at this
      rw [e0] at hrow
      obtain ⟨bl, hbl⟩ : ∃ b, l.map Prod.fst = b := ⟨_, rfl⟩
      rw [hbl] at hrow
      have hbk : bl.length = k := by rw [← hbl, List.length_map, HN1.out]
      have hblt : ∀ a ∈ bl, a < 4294967296 := fun a ha => by
        rw [← hbl] at ha
        obtain ⟨b, hb, rfl⟩ := List.mem_map.1 ha
        exact HLT.out b hb
      have hib := h2.ib
      have HRF := hideE (finds_any i (.slice p0 i.words.length q0) (.slice (some ⟨g, 0, none⟩) k k) bl hblt (by omega) HI.out wr (HS.out.below hTw) (slwU_own hrow hbk))
      have HSB := hideE (HSL.out.below hTw)
      have HTW := hideE hTw
      have HBL := hideE hbl
      clear hrow h2 hTw hbl hbk hblt e0
      simp only [imgV] at HRF
      go_upto_region 8 with (first
        | (refine wpList_load_row rfl 26 _ rfl w.heap.size rfl _ _ _ _ hib Tryz.underlying26 rfl (by kernel_rfl) ?_)
        | (go_at_call 25; refine HRF.out.mono ?_; rintro e wb ⟨er, m, hans, u1, rfl, hrm, hbm⟩; obtain ⟨pm, cm, rfl⟩ := own_slice' hrm))
      have HRI : Hid (rightP i l ↔ er = 0 ∧ l = m) := right_iff (by rw [HBL.out]; exact hans)
      have HL9 := hideE (HTW.out.trans (hbm.mono HTW.out.size))
      have HSM := hideE (equalB_any l m (.slice pb k qb) (.slice pm m.length cm) (by rw [HN1.out]; omega) wb (HSB.out.below hbm) (slb_of_owns hrm))
      clear hib HRF HSB HTW hans hrm hbm
      by_cases h0 : er = 0
      · have hz : ((er : Int) == 0) = true := by rw [h0]; rfl
        have HE := hideE h0
        clear h0
        go_wp2_with (go_at_call 26; refine HSM.out.mono ?_; rintro e wc ⟨rfl, hbc⟩)
        go_ret
        exact ⟨_, rfl, by rw [HRI.out]; simp [HE.out], HL9.out.trans (hbc.mono HL9.out.size)⟩
      · have hz : ((er : Int) == 0) = false := beq_eq_false_iff_ne.2 (by omega)
        have HE := hideE h0
        clear h0
        go_wp2_with fail
        go_ret
        exact ⟨false, rfl, by rw [HRI.out]; exact ⟨fun e => (by cases e), fun e => absurd e.1 HE.out⟩, HL9.out⟩
    | succ q =>
      have hk : ((k : Int) < (n1 : Int)) := by omega
      have hk0 : (0 : Int) ≤ (k : Int) := by omega
      have hwk : IntKind.i64.wrap ((k : Int) + 1) = (k : Int) + 1 := wrE (by omega) (by omega)
      obtain ⟨b, hb⟩ : ∃ b, l[k]? = some b := ⟨l[k]'(by rw [HN1.out]; omega), List.getElem?_eq_getElem (by rw [HN1.out]; omega)⟩
      obtain ⟨gl, rfl, a3, a4⟩ := (HSL.out.below hTw).at hb
      have HPut := hideE (fillE_put l HN1.out (by omega) hb)
      obtain ⟨v1, v2⟩ := b
      simp only at a3 a4
      have H2 := hideE h2
      clear h2 hTw hb
      go_upto_region 5 with fail
      refine gen_world (fun W => Fo w i (.slice p0 i.words.length q0) g n1 (fillE l n1 k) W ∧ W.heap[wr.heap.size]? = some (.cells #[.int .u32 (v1 : Int), .int .i64 (v2 : Int)] 45 (0, 0))) ⟨H2.out.ext ((Below.refl _ _).alloc (Nat.le_refl _) _), heap_alloc_new wr _⟩ ?_
      clear a3 a4 H2
      generalize wr.heap.size = gb
      rintro wb ⟨h3, hbb⟩
      have c0 : wb.cell? ⟨gb, 0, none⟩ = some (.int .u32 (v1 : Int)) := by simp [World.cell?, hbb]
      obtain ⟨z, hz⟩ : ∃ z, wb.cell? ⟨g, k, none⟩ = some z := by
        have hlE := fillE_len l (k := k) HN1.out (by omega)
        rw [h3.ra.cellAt k (by omega), List.getElem?_eq_getElem (by rw [List.length_map, hlE]; omega)]
        exact ⟨_, rfl⟩
      have hf := h3.ra.frozenAt k
      have H3 := hideE h3
      clear h3 hbb
      go_wp2_with fail
      go_roundg q
      case measure => omega
      case rel => exact ⟨k + 1, by omega, by simp, by rw [← HPut.out]; exact H3.out.put k v1⟩
end Go.Proofs.YtcffpmicencfpabGreat
