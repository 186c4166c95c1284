/-
  The walk of ImageWith.
-/
import Derived.Test.YtkfomhllaogplaaGS
import Derived.Test.YtkfomhllaogplaaGO
import Derived.Test.YtkfomhllaogplaaHG
import Derived.Laws.AppendOwnNone
import Derived.Deep.CutRange
namespace Go.Proofs.Ytkfomhllaogplaa
open Go.RowKit El Go.Lib
open Classical
set_option linter.unusedSimpArgs false
set_option linter.unusedVariables false

theorem SlW.cut {W : World} {p : Option Addr} {n c : Nat} {l : List Nat} (h : SlW W (.slice p n c) l) (k : Nat) (hk : k ≤ n) : SlW W (.slice p k c) (l.take k) := by
  rcases h with ⟨p', c', e, rfl⟩ | ⟨g, o, cap, e, hl, hg, hc⟩
  · injection e with e1 e2 e3
    obtain rfl : k = 0 := by omega
    exact .inl ⟨_, _, rfl, by simp⟩
  · injection e with e1 e2 e3
    subst e1 e3
    have hk' : (l.take k).length = k := by simp; omega
    refine .inr ⟨g, o, c, by rw [hk'], by rw [hk']; omega, hg, fun j n hj => ?_⟩
    rw [List.getElem?_take] at hj
    split at hj
    · exact hc j n hj
    · cases hj
theorem wpList_append_segs {ops : Array Oper} {rest : List Oper} {o : Oper} {a : Act} {w : World} {Q : Exit → Act → World → Prop} (hgd : o.guard = none) (s x : Operand)
    (ho : o.op = .call { callee := .builtin .append, args := #[s, x], argTypes := #[23, 23] }) {base base' : Nat} {v v2 : Value} {L M : List Seg}
    (hs : a.eval s = v) (hown : w.ownsRow base 42 4 v L.length (csS L)) (hx : a.eval x = v2) (hown2 : w.ownsRow base' 42 4 v2 M.length (csS M))
    (hl : L.length ≤ 65536) (hm : M.length ≤ 65536) (hbase : base ≤ w.heap.size)
    (h : ∀ v' w', w'.ownsRow base 42 4 v' (L ++ M).length (csS (L ++ M)) → w.grownBy w' v.ownBlock → wpList Try.prog ops Q rest (a.put o.dst v') w') : wpList Try.prog ops Q (o :: rest) a w := by
  obtain ⟨i0, hi, hz0, hz1, hz2⟩ := info_partsE infoS
  rcases hown2.2 with ⟨rfl, h0⟩ | ⟨g, cap, cur, rfl, hb, hg, hc1, hc2, hcs, htk⟩
  · obtain rfl : M = [] := List.eq_nil_of_length_eq_zero h0
    refine wpList_append_own_none hgd s x 23 ho base 42 i0 4 Try.underlying23 hi v L.length (csS L) hs hown hx ?_
    exact h v w (by rw [List.append_nil]; exact hown) ⟨rfl, rfl, rfl, Nat.le_refl _, fun _ _ _ => rfl⟩
  · refine wpList_append_own w hgd s x 23 ho base 42 i0 (.agg #[.int .u32 0, .string ⟨#[]⟩, .int .i64 0, .int .i64 0]) 4 40 Try.underlying23 hi hz0 hz1 hz2 rfl (by decide) v L.length (csS L) hs hown ⟨g, 0, none⟩ M.length cap (csS M) hx (csS_len M) ?_ (one_cells M) (by unfold maxLen; omega) (by omega) hbase (fun v' w' ho' hg' _ => h v' w' (by rw [List.length_append, csS_app]; exact ho') hg')
    intro j u hj
    have hjl : j < M.length * 4 := by rw [← csS_len]; exact (List.getElem?_eq_some_iff.1 hj).1
    rw [show (⟨g, 0, none⟩ : Addr).add j = ⟨g, j, none⟩ by unfold Addr.add; split <;> simp_all, hown2.cellAt j hjl]; exact hj
/-- While the sizes of the told program are turned to noughts. -/
structure Za (w0 : World) (b : Nat) (E F : Value) (n : Nat) (p : Option Addr) (c : Nat) (W : World) : Prop where
  low : Below w0.heap.size w0 W
  yb : W.heap[b]? = some (.cells #[E, F, .slice p n c] 25 (0, 0))
  zw : 0 < n → ∃ g cur, p = some ⟨g, 0, none⟩ ∧ w0.heap.size ≤ g ∧ W.heap[g]? = some (.cells cur 42 (0, 0)) ∧ n * 4 ≤ cur.size
theorem Za.below {w0 W W' : World} {b : Nat} {E F : Value} {n : Nat} {p : Option Addr} {c : Nat} (h : Za w0 b E F n p c W) (hb : Below W.heap.size W W') : Za w0 b E F n p c W' :=
  ⟨h.low.trans (hb.mono h.low.size), keptN hb h.yb, fun hn => by obtain ⟨g, cur, h1, h2, h3, h4⟩ := h.zw hn; exact ⟨g, cur, h1, h2, keptN hb h3, h4⟩⟩
theorem Za.new {w0 W : World} {E F : Value} {n : Nat} {p : Option Addr} {c : Nat} {xs : List Value} (hl : Below w0.heap.size w0 W) (ho : W.ownsRow w0.heap.size 42 4 (.slice p n c) n xs) : Za w0 W.heap.size E F n p c ((W.alloc (.cells Z3 25)).setRow W.heap.size #[E, F, .slice p n c]) := by
  have hb : Below W.heap.size W ((W.alloc (.cells Z3 25)).setRow W.heap.size #[E, F, .slice p n c]) := below_setRowE ((Below.refl _ W).alloc (Nat.le_refl _) _) (Nat.le_refl _) _
  refine ⟨hl.trans (hb.mono hl.size), setRow_heap _ _ _ _ _ _ (heap_alloc_new W _), fun hn => ?_⟩
  rcases ho.2 with ⟨e, h0⟩ | ⟨g, cap, cur, e, h2, h3, h4, h5, h6, h7⟩
  · omega
  · injection e with e1 e2 e3
    exact ⟨g, cur, e1, h2, keptN hb h3, by rw [h6]; exact Nat.mul_le_mul_right 4 h4⟩
theorem Za.set {w0 W : World} {b : Nat} {E F : Value} {n g : Nat} {c : Nat} (h : Za w0 b E F n (some ⟨g, 0, none⟩) c W) (k : Nat) (hk : k < n) : Za w0 b E F n (some ⟨g, 0, none⟩) c (W.setCell ⟨g, k * 4 + 2, none⟩ (.int .i64 0)) := by
  obtain ⟨g', cur, e, h2, h3, h4⟩ := h.zw (by omega)
  injection e with e
  injection e with e
  subst e
  have hne : b ≠ g := fun e => by
    have := h.yb; rw [e, h3] at this; injection this with this; injection this with _ this; revert this; decide
  refine ⟨h.low.setCell (by exact h2) _, by rw [set_other _ _ _ _ (by exact hne)]; exact h.yb, fun _ => ⟨g, cur.setIfInBounds (k * 4 + 2) (.int .i64 0), rfl, h2, ?_, by rw [Array.size_setIfInBounds]; exact h4⟩⟩
  simp [World.setCell, Array.getElem?_modify, h3]
theorem Za.cell {w0 W : World} {b : Nat} {E F : Value} {n g : Nat} {c : Nat} (h : Za w0 b E F n (some ⟨g, 0, none⟩) c W) (k : Nat) (hk : k < n) : ∃ u, W.cell? ⟨g, k * 4 + 2, none⟩ = some u ∧ W.frozen? ⟨g, k * 4 + 2, none⟩ = false := by
  obtain ⟨g', cur, e, h2, h3, h4⟩ := h.zw (by omega)
  injection e with e
  injection e with e
  subst e
  refine ⟨cur[k * 4 + 2]'(by omega), ?_, by simp [World.frozen?, h3]⟩
  rw [Lib.cell_of_heap h3]
  exact Array.getElem?_eq_getElem (by omega)
/-- What stays below: the law's program, and its segments' copy. -/
structure Wk (w : World) (X : Prg) (v vw : Value) (W : World) : Prop where
  x : LX w X v W
  ox : W.ownsRow (w.heap.size + 1) 42 4 v X.segs.length (csS X.segs)
  ow : W.ownsRow (w.heap.size + 1) 42 4 vw X.segs.length (csS X.segs)
theorem Wk.below {w W W' : World} {X : Prg} {v vw : Value} (h : Wk w X v vw W) (hb : Below W.heap.size W W') : Wk w X v vw W' := ⟨h.x.below hb, ownE_below h.ox hb, ownE_below h.ow hb⟩
theorem wV_len (X : Prg) (ws : List Nat) (h : X.segs.length ≤ 18) : (wV X ws).segs.length ≤ 18 := by
  unfold wV
  split
  · show (setD X.segs _ _).length ≤ 18; rw [setD_len]; exact h
  · exact Nat.zero_le _
set_option maxRecDepth 100000 in
set_option maxHeartbeats 8000000 in
theorem imageWith_walk (x : Prg) (u0 : Value) (L : List Nat) (lv : Value) (w : World) (hS : SlS w u0 x.segs) (hF : ∀ g ∈ x.segs, Fits g) (hL : SlW w lv L) (hLw : ∀ n ∈ L, n < 4294967296) :
    Calls Try.prog 4 #[prgV x u0, lv] w fun e w' => e = .returned (.bool true) ∧ Below w.heap.size w w' := by
  obtain ⟨pl, cl, rfl, hlc⟩ := hL.len
  obtain ⟨m, hm⟩ : ∃ m, min L.length 60 = m := ⟨_, rfl⟩
  have hmi : min (L.length : Int) 60 = (m : Int) := by omega
  have hm60 : m ≤ 60 := by omega
  have hmL : m ≤ L.length := by omega
  have hmc : m ≤ cl := by
    by_cases h : 0 < L.length
    · have := hlc h; omega
    · omega
  have HCut := hideE (hL.cut m hmL)
  have hll : (L.take m).length = m := by rw [List.length_take]; omega
  obtain ⟨ws, hws⟩ : ∃ ws, L.take m = ws := ⟨_, rfl⟩
  have HWw := hideE (show ∀ n ∈ ws, n < 4294967296 from fun n hn => hLw n (by rw [← hws] at hn; exact List.mem_of_mem_take hn))
  rw [hws] at HCut hll
  obtain ⟨ln, hln⟩ : ∃ ln, L.length = ln := ⟨_, rfl⟩
  rw [hln] at hmi hmL ⊢
  clear hlc hL hLw hm hws hln
  have b0 := (Below.refl _ w).alloc (Nat.le_refl _) (.cells #[.int .u32 (x.entry.toNat : Int), .int .u32 (x.flags.toNat : Int), u0] 25)
  have HBd := hideE (bound_any x u0 _ (hS.below b0))
  have hx0 := heap_alloc_new w (.cells #[.int .u32 (x.entry.toNat : Int), .int .u32 (x.flags.toNat : Int), u0] 25)
  have HX0 := hideE hx0
  have HB0 := hideE b0
  obtain ⟨X, hX⟩ : ∃ X, X = cutP x := ⟨_, rfl⟩
  have hXf := cut_fits hF
  have hXd := cut_small x
  have hX1 := (cut_data x).1
  rw [← hX] at HBd hXf hXd hX1
  have HXf := hideE hXf
  have HXd := hideE hXd
  clear hS hF hX hXf hx0 b0 hXd
  unfold prgV at HBd
  unfold prgV
  go_enter Try.func4, Try.ntmps4
  go_wp2_with fail
  refine HBd.out.mono ?_
  rintro e w1 ⟨v, rfl, hown, hb1⟩
  obtain ⟨p, c, rfl⟩ := own_slice' hown
  have hx1 := keptN hb1 HX0.out
  have HOw := hideE (own_other (W' := w1.setRow w.heap.size #[.int .u32 (X.entry.toNat : Int), .int .u32 (X.flags.toNat : Int), .slice p X.segs.length c]) hown (fun g hg => setRow_other _ _ _ _ (by simp at hg; omega)))
  have hL := LX.put (X := X) hx1 hown (by simp) (HB0.out.trans (hb1.mono (by simp)))
  have HL0 := hideE hL
  clear hown hb1 hL HX0 HB0 HBd
  go_upto_region 2 with (first
    | (refine wpList_store_row rfl 25 _ _ rfl w.heap.size _ rfl rfl _ _ hx1 (by kernel_rfl) rfl (by kernel_rfl) ?_))
  refine gen_world (fun W => LX w X (.slice p X.segs.length c) W ∧ W.ownsRow (w.alloc (.cells #[.int .u32 (x.entry.toNat : Int), .int .u32 (x.flags.toNat : Int), u0] 25)).heap.size 42 4 (.slice p X.segs.length c) X.segs.length (csS X.segs)) ⟨HL0.out, HOw.out⟩ ?_
  rintro wa ⟨hLa, hoa⟩
  clear HL0 HOw hx1
  rw [World.size_alloc] at hoa
  have hd4 : ∀ g ∈ X.segs, g.data.length ≤ 4000000 := fun g hg => Nat.le_trans (HXd.out g hg) (by decide)
  obtain ⟨⟨a0, a1, a2⟩, _⟩ := three hLa.box
  have hsz1 : w.heap.size + 1 ≤ wa.heap.size := (Array.getElem?_eq_some_iff.1 hLa.box).1
  have hLb := hLa.alloc (.cells #[] 42)
  obtain ⟨⟨b0, b1, b2⟩, _⟩ := three hLb.box
  have HLa := hideE hLa
  have HOa := hideE hoa
  have HCut := hideE (HCut.out.belowB hLa.low (Nat.le_refl _))
  clear hLa hoa hLb
  go_upto_region 4 with (at_builtin; refine wpList_append_segs rfl _ _ rfl (base := wa.heap.size) (L := []) (M := X.segs) rfl (World.ownsRow_made wa #[] 0 (Nat.le_refl _) (Nat.zero_le _) (by simp)) rfl (HOa.out.alloc _) (by simp) (by omega) (by simp) ?_; intro v' w2 hown2 hgrow2)
  have hlow2 : Below wa.heap.size wa w2 := ((Below.refl _ wa).alloc (Nat.le_refl _) _).grown hgrow2 (by simp) (fun k e => by have e := Option.some.inj (show some wa.heap.size = some k from e); omega)
  have hWk : Wk w X (.slice p X.segs.length c) v' w2 := ⟨HLa.out.below hlow2, ownE_below HOa.out hlow2, own_base (by simpa using hown2) hsz1⟩
  have HLw := hideE (HCut.out.below hlow2)
  obtain ⟨pw, cw, rfl⟩ := own_slice' hWk.ow
  have HWk := hideE hWk
  clear hown2 hgrow2 hlow2 hWk HLa HOa HCut a0 a1 a2 b0 b1 b2 hsz1
  have HWi := hideE (with_any X (.slice p X.segs.length c) (.slice pl m cl) ws HXf.out hd4 HWw.out w2 HWk.out.x.s HLw.out)
  have HRi := hideE (fun (W : World) (hs : SlS W (.slice p X.segs.length c) X.segs) (hl : SlW W (.slice pl m cl) ws) => rwith_any X (.slice p X.segs.length c) (.slice pl m cl) ws (by omega) hd4 HWw.out W hs hl)
  have hYl := wV_len X ws hX1
  obtain ⟨Y, hY⟩ : ∃ Y, wV X ws = Y := ⟨_, rfl⟩
  obtain ⟨f, hf⟩ : ∃ f, wE X ws.length = f := ⟨_, rfl⟩
  rw [hY, hf] at HWi HRi
  rw [hY] at hYl
  have HSm := hideE (fun (a b : Value) (W : World) (hs : SlS W a Y.segs) (ht : SlS W b Y.segs) => same_self Y a b (by omega) W hs ht)
  have HSx := hideE (fun (a b : Value) (W : World) (hs : SlS W a X.segs) (ht : SlS W b X.segs) => same_self ⟨0, X.flags, X.segs⟩ a b (by show X.segs.length ≤ _; omega) W hs ht)
  unfold prgV at HWi HRi HSm HSx
  simp only [show ((BitVec.toNat (0 : BitVec 32) : Nat) : Int) = 0 from rfl] at HSx
  obtain ⟨EY, hEY⟩ : ∃ t : Int, (Y.entry.toNat : Int) = t := ⟨_, rfl⟩
  obtain ⟨FY, hFY⟩ : ∃ t : Int, (Y.flags.toNat : Int) = t := ⟨_, rfl⟩
  rw [hEY, hFY] at HWi HRi HSm
  clear hY hf hd4 hEY hFY HXf HXd HWw
  have hbx := HWk.out.x.box
  go_wp2_with (first
    | (refine wpList_load_row rfl 25 _ rfl w.heap.size rfl _ _ _ _ hbx Try.underlying25 rfl (by kernel_rfl) ?_))
  refine HWi.out.mono ?_
  rintro e w3 ⟨ua, rfl, hown3, hb3⟩
  have hsa := sls_of_owns hown3
  obtain ⟨pa, ca, rfl⟩ := own_slice' hown3
  have HZ := hideE (Za.new (E := .int .u32 EY) (F := .int .u32 FY) hb3 hown3)
  have hbs : Below w3.heap.size w3 ((w3.alloc (.cells Z3 25)).setRow w3.heap.size #[.int .u32 EY, .int .u32 FY, .slice pa Y.segs.length ca]) := below_setRowE ((Below.refl _ w3).alloc (Nat.le_refl _) _) (Nat.le_refl _) _
  have HSa := hideE (hsa.below hbs)
  clear hown3 hb3 hsa hbs hbx HWi
  go_upto_region 5 with (first
    | (refine wpList_store_row rfl 25 _ _ rfl (w3.heap.size) _ rfl rfl _ Z3 (heap_alloc_new w3 _) (by kernel_rfl) rfl (by kernel_rfl) ?_))
  refine gen_world (fun W => Za w2 w3.heap.size (.int .u32 EY) (.int .u32 FY) Y.segs.length pa ca W ∧ SlS W (.slice pa Y.segs.length ca) Y.segs) ⟨HZ.out, HSa.out⟩ ?_
  rintro w4 ⟨hZ, hsa⟩
  clear HZ HSa
  generalize w3.heap.size = b6 at *
  have HLw4 := hideE (HLw.out.below hZ.low)
  have HWk4 := hideE (HWk.out.below hZ.low)
  have hbx := HWk4.out.x.box
  have HZ := hideE hZ
  have HSa := hideE hsa
  clear hZ hsa
  go_wp2_with (first
    | (refine wpList_load_row rfl 25 _ rfl w.heap.size rfl _ _ _ _ hbx Try.underlying25 rfl (by kernel_rfl) ?_))
  refine (HRi.out _ HWk4.out.x.s HLw4.out).mono ?_
  rintro e w5 ⟨ub, rfl, hown5, hb5⟩
  have hsb := sls_of_owns hown5
  obtain ⟨pb, cb, rfl⟩ := own_slice' hown5
  have hbs : Below w5.heap.size w5 ((w5.alloc (.cells Z3 25)).setRow w5.heap.size #[.int .u32 EY, .int .u32 FY, .slice pb Y.segs.length cb]) := below_setRowE ((Below.refl _ w5).alloc (Nat.le_refl _) _) (Nat.le_refl _) _
  have HZ := hideE ((HZ.out.below hb5).below hbs)
  have HSa := hideE ((HSa.out.below hb5).below hbs)
  have HSb := hideE (hsb.below hbs)
  have HB8 := hideE (show ((w5.alloc (.cells Z3 25)).setRow w5.heap.size #[.int .u32 EY, .int .u32 FY, .slice pb Y.segs.length cb]).heap[w5.heap.size]? = some (.cells #[.int .u32 EY, .int .u32 FY, .slice pb Y.segs.length cb] 25 (0, 0)) from setRow_heap _ _ _ _ _ _ (heap_alloc_new w5 _))
  clear hown5 hb5 hsb hbs hbx HRi HLw4 HWk4 HLw
  go_upto_region 6 with (first
    | (refine wpList_store_row rfl 25 _ _ rfl (w5.heap.size) _ rfl rfl _ Z3 (heap_alloc_new w5 _) (by kernel_rfl) rfl (by kernel_rfl) ?_))
  refine gen_world (fun W => Za w2 b6 (.int .u32 EY) (.int .u32 FY) Y.segs.length pa ca W ∧ SlS W (.slice pa Y.segs.length ca) Y.segs ∧ SlS W (.slice pb Y.segs.length cb) Y.segs ∧ W.heap[w5.heap.size]? = some (.cells #[.int .u32 EY, .int .u32 FY, .slice pb Y.segs.length cb] 25 (0, 0))) ⟨HZ.out, HSa.out, HSb.out, HB8.out⟩ ?_
  rintro w6 ⟨hZ, hsa, hsb, hb8⟩
  clear HZ HSa HSb HB8
  generalize w5.heap.size = b8 at *
  have hyb := hZ.yb
  have HSm1 := hideE (HSm.out _ _ w6 hsa hsb)
  have HZ := hideE hZ
  clear hZ hsa hsb HSm
  go_wp2_with (first
    | (refine wpList_load_rowG (by rfl) 25 _ rfl b6 rfl _ _ _ _ hyb Try.underlying25 rfl (by kernel_rfl) ?_)
    | (refine wpList_load_rowG (by rfl) 25 _ rfl b8 rfl _ _ _ _ hb8 Try.underlying25 rfl (by kernel_rfl) ?_))
  refine HSm1.out.mono ?_
  rintro e w7 ⟨rfl, hb7⟩
  have HZ := hideE (HZ.out.below hb7)
  clear hb7 HSm1 hyb hb8
  obtain ⟨n, hn⟩ : ∃ n, Y.segs.length = n := ⟨_, rfl⟩
  rw [hn] at HZ hYl
  rw [hn]
  clear hn
  go_wp2_with fail
  go_loopg [10] n (fun q i wr => ∃ k : Nat, k + q = n ∧ i = .int .i64 (k : Int) ∧ Za w2 b6 (.int .u32 EY) (.int .u32 FY) n pa ca wr)
  case atStart => exact ⟨0, by omega, rfl, HZ.out⟩
  case round =>
    clear HZ
    obtain ⟨k, hkq, rfl, hZ⟩ := hrel
    obtain ⟨⟨i0, i1, i2⟩, _⟩ := three hZ.yb
    cases gk with
    | zero =>
      obtain rfl : k = n := by omega
      have hk : ¬ ((k : Int) < (k : Int)) := by omega
      have hW := HWk.out.below hZ.low
      obtain ⟨⟨a0, a1, a2⟩, f0, f1, f2⟩ := three hW.x.box
      have hx' : (wr.setCell ⟨w.heap.size, 0, none⟩ (.int .u32 0)).heap[w.heap.size]? = some (.cells #[.int .u32 0, .int .u32 (X.flags.toNat : Int), .slice p X.segs.length c] 25 (0, 0)) := by
        simp [World.setCell, Array.getElem?_modify, hW.x.box]
      have ho1 := own_set (o := 0) hW.ox hW.x.box (by decide) (.int .u32 0)
      have ho2 := own_set (o := 0) hW.ow hW.x.box (by decide) (.int .u32 0)
      have hlow := hW.x.low.setCell (p := ⟨w.heap.size, 0, none⟩) (Nat.le_refl _) (.int .u32 0)
      have HG := hideE (show (wr.setCell ⟨w.heap.size, 0, none⟩ (.int .u32 0)).heap[w.heap.size]? = some (.cells #[.int .u32 0, .int .u32 (X.flags.toNat : Int), .slice p X.segs.length c] 25 (0, 0)) ∧ SlS (wr.setCell ⟨w.heap.size, 0, none⟩ (.int .u32 0)) (.slice p X.segs.length c) X.segs ∧ SlS (wr.setCell ⟨w.heap.size, 0, none⟩ (.int .u32 0)) (.slice pw X.segs.length cw) X.segs ∧ Below w.heap.size w (wr.setCell ⟨w.heap.size, 0, none⟩ (.int .u32 0)) from ⟨hx', sls_of_owns ho1, sls_of_owns ho2, hlow⟩)
      clear hZ hW hx' ho1 ho2 hlow HWk
      go_upto_region 13 with (fail)
      refine gen_world (fun W => W.heap[w.heap.size]? = some (.cells #[.int .u32 0, .int .u32 (X.flags.toNat : Int), .slice p X.segs.length c] 25 (0, 0)) ∧ SlS W (.slice p X.segs.length c) X.segs ∧ SlS W (.slice pw X.segs.length cw) X.segs ∧ Below w.heap.size w W) HG.out ?_
      rintro wz ⟨hbz, hs1, hs2, hlw⟩
      clear HG a0 a1 a2 f0 f1 f2 i0 i1 i2
      obtain ⟨⟨a0, a1, a2⟩, _⟩ := three hbz
      have HS := hideE (HSx.out _ _ wz hs1 hs2)
      clear hs1 hs2 HSx
      go_wp2_with fail
      refine HS.out.mono ?_
      rintro e w8 ⟨rfl, hb8⟩
      have hb := hlw.trans (hb8.mono hlw.size)
      clear HS hb8
      go_wp2_with (go_at_call 15; refine (fixed7_any _).mono ?_; rintro e w7 ⟨rfl, hb7⟩)
      go_ret
      exact ⟨rfl, hb.trans (hb7.mono hb.size)⟩
    | succ q =>
      have hk : ((k : Int) < (n : Int)) := by omega
      have hk0 : (0 : Int) ≤ (k : Int) := by omega
      have hwk : IntKind.i64.wrap ((k : Int) + 1) = (k : Int) + 1 := wrE (by omega) (by omega)
      obtain ⟨g, cur, rfl, _⟩ := hZ.zw (by omega)
      obtain ⟨uc, c3, f3⟩ := hZ.cell k (by omega)
      have HZ := hideE (hZ.set k (by omega))
      clear hZ
      go_wp2_with fail
      go_roundg q
      case measure => omega
      case rel => exact ⟨k + 1, by omega, by simp, HZ.out⟩
end Go.Proofs.Ytkfomhllaogplaa
