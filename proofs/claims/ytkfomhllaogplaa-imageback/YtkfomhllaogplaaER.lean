/-
  Contract of the law's Bound: a program with no more segments and bytes than a statement can hold.
-/
import Derived.Test.YtkfomhllaogplaaEQ
namespace Go.Proofs.Ytkfomhllaogplaa
open Go.RowKit El Go.Lib
open Classical
set_option linter.unusedSimpArgs false

def cutS (g : Seg) : Seg := { g with data := g.data.take 200 }
def cutP (x : Prg) : Prg := ⟨x.entry, x.flags, (x.segs.take 18).map cutS⟩
theorem ext_to (d : List UInt8) (m : Nat) : (⟨d.toArray⟩ : ByteArray).extract 0 m = ⟨(d.take m).toArray⟩ := by
  have := ext_mid d 0 m
  rwa [Nat.zero_add, List.drop_zero] at this
theorem take_min (d : List UInt8) : d.take (min d.length 200) = d.take 200 := by
  by_cases h : d.length ≤ 200
  · rw [Nat.min_eq_left h, List.take_length, List.take_of_length_le h]
  · rw [Nat.min_eq_right (by omega)]
/-- While Bound is at work. -/
structure BndAt (w : World) (E F : Int) (v v' : Value) (l : List Seg) (W : World) : Prop where
  box : W.heap[w.heap.size]? = some (.cells #[.int .u32 E, .int .u32 F, v] 25 (0, 0))
  res : W.heap[w.heap.size + 1]? = some (.cells Z3 25 (0, 0))
  own : W.ownsRow (w.heap.size + 2) 42 4 v' l.length (csS l)
  low : Below w.heap.size w W
theorem BndAt.below {w W W' : World} {E F : Int} {v v' : Value} {l : List Seg} (h : BndAt w E F v v' l W) (hb : Below W.heap.size W W') : BndAt w E F v v' l W' :=
  ⟨keptN hb h.box, keptN hb h.res, ownE_below h.own hb, h.low.trans (hb.mono h.low.size)⟩
theorem BndAt.sz {w W : World} {E F : Int} {v v' : Value} {l : List Seg} (h : BndAt w E F v v' l W) : w.heap.size + 2 ≤ W.heap.size := by have := (Array.getElem?_eq_some_iff.1 h.res).1; omega
theorem BndAt.grown {w W W' : World} {E F : Int} {v v' u : Value} {l l' : List Seg} (h : BndAt w E F v v' l W) (hg : W.grownBy W' v'.ownBlock) (ho : W'.ownsRow (w.heap.size + 2) 42 4 u l'.length (csS l')) : BndAt w E F v u l' W' := by
  have hne : ∀ k, k < w.heap.size + 2 → some k ≠ v'.ownBlock := fun k hk e => by
    have := (h.own.lt k e.symm).1; omega
  have hs := h.sz
  exact ⟨by rw [hg.block _ (by omega) (hne _ (by omega))]; exact h.box, by rw [hg.block _ (by omega) (hne _ (by omega))]; exact h.res, ho, h.low.grown hg (by omega) (fun k e => by have := (h.own.lt k e).1; omega)⟩
theorem BndAt.new (w : World) (E F : Int) (v : Value) : BndAt w E F v (.slice (some ⟨w.heap.size + 1 + 1, 0, none⟩) 0 0) [] (((w.alloc (.cells #[.int .u32 E, .int .u32 F, v] 25)).alloc (.cells #[.int .u32 0, .int .u32 0, .slice none 0 0] 25)).alloc (.cells #[] 42)) := by
  refine ⟨?_, ?_, ⟨rfl, .inr ⟨w.heap.size + 1 + 1, 0, #[], rfl, by omega, ?_, Nat.le_refl _, by unfold maxLen; omega, rfl, rfl⟩⟩, (((Below.refl _ w).alloc (Nat.le_refl _) _).alloc (by simp) _).alloc (by simp; omega) _⟩
  · rw [Below.heap_alloc _ _ _ (by simp; omega), Below.heap_alloc _ _ _ (by simp)]; exact heap_alloc_new w _
  · rw [Below.heap_alloc _ _ _ (by simp)]
    have := heap_alloc_new (w.alloc (.cells #[.int .u32 E, .int .u32 F, v] 25)) (.cells #[.int .u32 0, .int .u32 0, .slice none 0 0] 25)
    simpa using this
  · have := heap_alloc_new ((w.alloc (.cells #[.int .u32 E, .int .u32 F, v] 25)).alloc (.cells #[.int .u32 0, .int .u32 0, .slice none 0 0] 25)) (.cells #[] 42)
    simpa using this
theorem cell_four_at (w : World) (n : Nat) (hn : n = w.heap.size) (a b c d : Value) (t : TypeId) : ∀ j u, [a, b, c, d][j]? = some u → (w.alloc (.cells #[a, b, c, d] t)).cell? ((⟨n, 0, none⟩ : Addr).add j) = some u := by
  subst hn; exact cell_four_new w a b c d t
theorem cutP_at (x : Prg) (k : Nat) (g : Seg) (hg : x.segs[k]? = some g) : (x.segs.take (k + 1)).map cutS = (x.segs.take k).map cutS ++ [cutS g] := by
  rw [take_snoc hg, List.map_append]; rfl
set_option maxRecDepth 100000 in
set_option maxHeartbeats 4000000 in
theorem bound_any (x : Prg) (v : Value) (w : World) (hS : SlS w v x.segs) :
    Calls Try.prog 9 #[prgV x v] w fun e w' => ∃ v', e = .returned (prgV (cutP x) v') ∧ w'.ownsRow w.heap.size 42 4 v' (cutP x).segs.length (csS (cutP x).segs) ∧ Below w.heap.size w w' := by
  obtain ⟨p, c, rfl, _⟩ := hS.len
  have HS := hideE hS
  clear hS
  obtain ⟨i0, hi, hz0, hz1, hz2⟩ := info_partsE infoS
  have B0 := hideE (BndAt.new w (x.entry.toNat : Int) (x.flags.toNat : Int) (.slice p x.segs.length c))
  obtain ⟨n, hn⟩ : ∃ n, x.segs.length = n := ⟨_, rfl⟩
  rw [hn] at B0
  unfold prgV
  rw [hn]
  have HN := hideE hn
  clear hn
  have hext := ext_to
  go_enter Try.func9, Try.ntmps9
  go_wp2_with fail
  refine gen_world (BndAt w (x.entry.toNat : Int) (x.flags.toNat : Int) (.slice p n c) (.slice (some ⟨w.heap.size + 1 + 1, 0, none⟩) 0 0) []) B0.out ?_
  intro wa hB
  go_loopg [3, 4] (min n 18) (fun q u i wr => ∃ k : Nat, k + q = min n 18 ∧ i = .int .i64 (k : Int) ∧ BndAt w (x.entry.toNat : Int) (x.flags.toNat : Int) (.slice p n c) u ((x.segs.take k).map cutS) wr)
  case atStart => exact ⟨0, by omega, rfl, hB⟩
  case round =>
    clear hB B0
    obtain ⟨k, hkq, rfl, hB⟩ := hrel
    obtain ⟨⟨a0, a1, a2⟩, _, _, f2⟩ := three hB.box
    cases gk with
    | zero =>
      obtain ⟨pp, mm, cc, rfl⟩ := own_slice hB.own
      have hcut : (x.segs.take k).map cutS = (cutP x).segs := by
        unfold cutP
        simp only []
        rcases Nat.le_total n 18 with h | h
        · rw [List.take_of_length_le (by rw [HN.out]; omega), List.take_of_length_le (by rw [HN.out]; omega)]
        · rw [show k = 18 by omega]
      have Hc := hideE hcut
      have HB := hideE hB
      have hrs : ∀ u, (wr.setCell ⟨w.heap.size, 2, none⟩ u).heap[w.heap.size + 1]? = some (.cells Z3 25 (0, 0)) := fun u => by rw [set_other _ _ _ _ (by simp)]; exact HB.out.res
      have hbx : ∀ u, (wr.setCell ⟨w.heap.size, 2, none⟩ u).heap[w.heap.size]? = some (.cells #[.int .u32 (x.entry.toNat : Int), .int .u32 (x.flags.toNat : Int), u] 25 (0, 0)) := fun u => by simp [World.setCell, Array.getElem?_modify, HB.out.box]
      clear hB hcut
      have fin : ∀ u, u = Value.slice pp mm cc → ((wr.setCell ⟨w.heap.size, 2, none⟩ u).setRow (w.heap.size + 1) #[.int .u32 (x.entry.toNat : Int), .int .u32 (x.flags.toNat : Int), u]).ownsRow w.heap.size 42 4 (.slice pp mm cc) (cutP x).segs.length (csS (cutP x).segs) ∧ Below w.heap.size w ((wr.setCell ⟨w.heap.size, 2, none⟩ u).setRow (w.heap.size + 1) #[.int .u32 (x.entry.toNat : Int), .int .u32 (x.flags.toNat : Int), u]) := fun u hu => by
        refine ⟨?_, below_setRowE (HB.out.low.setCell (Nat.le_refl _) _) (by omega) _⟩
        rw [← Hc.out]
        exact own_base (own_other HB.out.own (fun g hg => by rw [setRow_other _ _ _ _ (by omega), set_other _ _ _ _ (by simp; omega)])) (by omega)
      have Hf := hideE fin
      clear fin
      by_cases h18 : (k : Int) < (n : Int)
      · have h2 : ¬ ((k : Int) < 18) := by omega
        go_wp2_with (first
          | (refine wpList_load_row rfl 25 _ rfl w.heap.size rfl _ _ _ _ (hbx _) Try.underlying25 rfl (by kernel_rfl) ?_)
          | (refine wpList_store_row rfl 25 _ _ rfl (w.heap.size + 1) _ rfl rfl _ Z3 (hrs _) (by kernel_rfl) rfl (by kernel_rfl) ?_))
        exact bodyPost_ret (results_cell_row (p := 2) (by kernel_rfl) _ _ (w.heap.size + 1) _ _ _ _ rfl (setRow_heap _ _ _ _ _ _ (hrs _)) Try.underlying25 rfl (by kernel_rfl)) rfl ⟨_, rfl, (Hf.out _ rfl).1, (Hf.out _ rfl).2⟩
      · go_wp2_with (first
          | (refine wpList_load_row rfl 25 _ rfl w.heap.size rfl _ _ _ _ (hbx _) Try.underlying25 rfl (by kernel_rfl) ?_)
          | (refine wpList_store_row rfl 25 _ _ rfl (w.heap.size + 1) _ rfl rfl _ Z3 (hrs _) (by kernel_rfl) rfl (by kernel_rfl) ?_))
        exact bodyPost_ret (results_cell_row (p := 2) (by kernel_rfl) _ _ (w.heap.size + 1) _ _ _ _ rfl (setRow_heap _ _ _ _ _ _ (hrs _)) Try.underlying25 rfl (by kernel_rfl)) rfl ⟨_, rfl, (Hf.out _ rfl).1, (Hf.out _ rfl).2⟩
    | succ q =>
      have hk : ((k : Int) < (n : Int)) := by omega
      have hk2 : ((k : Int) < 18) := by omega
      have hk0 : (0 : Int) ≤ (k : Int) := by omega
      have hwk : IntKind.i64.wrap ((k : Int) + 1) = (k : Int) + 1 := wrE (by omega) (by omega)
      obtain ⟨y, hy⟩ : ∃ y, x.segs[k]? = some y := ⟨x.segs[k]'(by rw [HN.out]; omega), List.getElem?_eq_getElem (by rw [HN.out]; omega)⟩
      obtain ⟨g, o, rfl⟩ := sls_some HS.out (by rw [HN.out]; omega)
      obtain ⟨hc, _⟩ := slsCells (HS.out.below hB.low) (by rw [HN.out]; omega)
      obtain ⟨b0, b1, b2, b3⟩ := SlS.at hc k y hy
      have Hy := hideE hy
      have HB := hideE hB
      obtain ⟨m, hm⟩ : ∃ m, m = min y.data.length 200 := ⟨_, rfl⟩
      have hmi : min (y.data.length : Int) 200 = (m : Int) := by omega
      have hm0 : (0 : Int) ≤ (m : Int) := by omega
      have hml : (m : Int) ≤ (y.data.length : Int) := by omega
      have Hm := hideE hm
      have hlk : ((x.segs.take k).map cutS).length = k := by rw [List.length_map, List.length_take, HN.out]; omega
      have hown := hB.own
      have hsz := hB.sz
      clear hy hB hc hm
      go_wp2_with (first
        | (at_builtin; refine wpList_append_own _ rfl _ _ 23 rfl (w.heap.size + 2) 42 i0 (.agg #[.int .u32 0, .string ⟨#[]⟩, .int .i64 0, .int .i64 0]) 4 40 Try.underlying23 hi hz0 hz1 hz2 rfl (by decide) _ _ _ rfl ((hown.alloc _).alloc _) ⟨wr.heap.size + 1, 0, none⟩ 1 1 [.int .u32 (y.addr.toNat : Int), .string ⟨(y.data.take m).toArray⟩, .int .i64 y.size, .int .i64 y.flags] rfl rfl (cell_four_at _ _ (by simp) _ _ _ _ _) (by simp [Value.oneCell']) (by rw [hlk]; unfold maxLen; omega) (by rw [hlk]; omega) (by simp; omega) ?_; intro v' w3 hown' hgrow hnil'))
      go_roundg q
      case measure => omega
      case rel =>
        refine ⟨k + 1, by omega, by simp, ?_⟩
        refine ((HB.out.below ((Below.refl _ wr).alloc (Nat.le_refl _) _)).below ((Below.refl _ _).alloc (Nat.le_refl _) _)).grown hgrow ?_
        rw [cutP_at x k y Hy.out, csS_app, List.length_append]
        have e : csS [cutS y] = [.int .u32 (y.addr.toNat : Int), .string ⟨(y.data.take m).toArray⟩, .int .i64 y.size, .int .i64 y.flags] := by
          rw [Hm.out, take_min]; rfl
        rw [e]
        exact hown'
end Go.Proofs.Ytkfomhllaogplaa
