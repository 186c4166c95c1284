/-
  The walk of the function that marks an address as reached.
  What holds of memory while reached is at work.
-/

import Derived.Test.YtcffpmicencfpabGreatZC4
namespace Go.Proofs.YtcffpmicencfpabGreat
open Go.RowKit Go.Lib Go.Sort Go.Maps Ip Bl Pm
set_option linter.unusedSimpArgs false
set_option linter.unusedVariables false

/-- While it is at work: its place's box besides. -/
structure ClP (lo B bm br bw : Nat) (r : Plcs) (wait : List Nat) (v0 : Value) (W0 : World) (v : Value) (p : Plc) (W : World) : Prop where
  cl : Cl lo B bm br bw r wait v0 W0 v W
  box : W.heap[W0.heap.size]? = some (.cells (plcC p) 92 (0, 0))
variable {lo B bm br bw : Nat} {r : Plcs} {wait : List Nat} {v0 v : Value} {W0 W W' : World}
theorem ClP.cells {p : Plc} (h : ClP lo B bm br bw r wait v0 W0 v p W) : W.cell? ⟨br, 0, none⟩ = some (.map (some bm)) ∧ W.cell? ⟨bw, 0, none⟩ = some v ∧ W.frozen? ⟨bw, 0, none⟩ = false ∧
    W.cell? ⟨W0.heap.size, 2, none⟩ = some (.bool p.leads) ∧ W.frozen? ⟨W0.heap.size, 2, none⟩ = false := by
  refine ⟨?_, ?_, ?_, ?_, ?_⟩
  · simp [World.cell?, h.cl.rbox]
  · simp [World.cell?, h.cl.wbox]
  · simp [World.frozen?, h.cl.wbox]
  · simp [World.cell?, h.box, plcC]
  · simp [World.frozen?, h.box]
theorem ClP.new (hs : Sep lo B bm br bw) (hB : B ≤ W.heap.size) (h : Cl lo B bm br bw r wait v W v W) (cs : Array Value) (p : Plc) (hc : (World.alloc W (.cells cs 92)).heap[W.heap.size]? = some (.cells cs 92 (0, 0))) :
    ClP lo B bm br bw r wait v W v p ((W.alloc (.cells cs 92)).setRow W.heap.size (plcC p)) := by
  have ha := h.ext hs hB ((Below.refl _ W).alloc (Nat.le_refl _) (.cells cs 92))
  exact ⟨ha.box hs hB (Nat.le_refl _) hc (grown_setRow _ _ _), setRow_heap _ _ _ _ _ _ hc⟩
theorem ClP.led (hs : Sep lo B bm br bw) (hB : B ≤ W0.heap.size) {p : Plc} (h : ClP lo B bm br bw r wait v0 W0 v p W) (b : Bool) : ClP lo B bm br bw r wait v0 W0 v ⟨p.e, p.ends, b⟩ (W.setCell ⟨W0.heap.size, 2, none⟩ (.bool b)) := by
  refine ⟨h.cl.box hs hB (Nat.le_refl _) h.box (grown_setCell _ _ _), ?_⟩
  have := heap_setCell_same W W0.heap.size 2 (plcC p) 92 (.bool b) h.box
  rw [this]; rfl
theorem ClP.push (hs : Sep lo B bm br bw) (hB : B ≤ W0.heap.size) {p : Plc} (h : ClP lo B bm br bw r wait v0 W0 v p W) {o : Obj} {v' : Value} {x : Value} {a : Nat} (hx : x = wordV a) (hown : W'.ownsRow B 22 1 v' (wait.length + 1) (wait.map wordV ++ [x])) (hg : (W.alloc o).grownBy W' v.ownBlock)
    (hat : v'.ownBlock = v.ownBlock ∨ v'.ownBlock = some (W.alloc o).heap.size) : ClP lo B bm br bw r (wait ++ [a]) v0 W0 v' p (W'.setCell ⟨bw, 0, none⟩ v') := by
  refine ⟨h.cl.push hs hB hx hown hg hat, ?_⟩
  have hlt := (Array.getElem?_eq_some_iff.1 h.box).1
  have h3 := hs.wB
  have hv : some W0.heap.size ≠ v.ownBlock := fun e => by
    rcases h.cl.row.2 with ⟨e1, _⟩ | ⟨g', cap, cur, e1, _, hb, _⟩
    · rw [e1] at e; cases e
    · rw [e1] at e
      obtain rfl : W0.heap.size = g' := by simpa [Value.ownBlock] using e
      rw [h.box] at hb
      injection hb with hb
      injection hb with _ hb
      exact absurd hb (by decide)
  rw [Below.heap_setCell _ _ _ _ (by show W0.heap.size ≠ bw; omega), hg.block _ (by rw [World.size_alloc]; omega) hv]
  exact (Below.heap_alloc _ _ _ hlt).trans h.box
theorem Cl.wboxG (hs : Sep lo B bm br bw) (h : Cl lo B bm br bw r wait v0 W0 v W) {o : Obj} (hg : (W.alloc o).grownBy W' v.ownBlock) : W'.cell? ⟨bw, 0, none⟩ = some v ∧ W'.frozen? ⟨bw, 0, none⟩ = false := by
  have h3 := hs.wB
  have hlt := (Array.getElem?_eq_some_iff.1 h.wbox).1
  have : W'.heap[bw]? = some (.cells #[v] 24 (0, 0)) := (hg.block bw (by rw [World.size_alloc]; omega) (fun e => by have := (h.row.lt bw e.symm).1; omega)).trans ((Below.heap_alloc _ _ _ hlt).trans h.wbox)
  exact ⟨by simp [World.cell?, this], by simp [World.frozen?, this]⟩
set_option maxHeartbeats 4000000 in
set_option maxRecDepth 100000 in
theorem reach_any (hs : Sep lo B bm br bw) (hB : B ≤ W.heap.size) (hR : Rise r) (hw : wait.length ≤ 4000000) (a : Nat) (ha : a < 4294967296) (l : Bool) (h : Cl lo B bm br bw r wait v W v W) :
    Calls Tryz.prog 63 #[.int .u32 (a : Int), .bool l, .pointer (some ⟨br, 0, none⟩), .pointer (some ⟨bw, 0, none⟩)] W fun e W' => e = .returned (.tuple #[]) ∧ ∃ v', Cl lo B bm br bw (rchR r a l) (rchW r wait a) v W v' W' := by
  obtain ⟨i0, hi, hz0, hz1, hz2⟩ := info_parts infoU
  obtain ⟨vp, vc, rfl⟩ := own_slice' h.row
  have c0 : W.cell? ⟨br, 0, none⟩ = some (.map (some bm)) := by simp [World.cell?, h.rbox]
  have hown := h.own
  have HS := hideE hs
  have HB := hideE hB
  have HC := hideE h
  have hn := fun cs p => ClP.new hs hB h cs p (heap_alloc_new W _)
  have HN := hideE hn
  have HR' : Hid (∀ p, rchR r a p = ins a ⟨(at_ r a).e, (at_ r a).ends, (at_ r a).leads || p⟩ r) := fun _ => rfl
  have HW : Hid (rchW r wait a = if (lookP r a).isSome = true then wait else wait ++ [a]) := rfl
  clear hs h hn
  obtain ⟨p, hp⟩ : ∃ p, at_ r a = p := ⟨_, rfl⟩
  obtain ⟨kn, hk⟩ : ∃ kn, (lookP r a).isSome = kn := ⟨_, rfl⟩
  have hlk : ∀ (ops : Array Oper) (rest : List Oper) (o : Oper) (act : Act) (Q : Exit → Act → World → Prop) (hg : o.guard = none) (m x : Operand) (hop : o.op = Op.lookup 85 m x true) (hm : act.eval m = .map (some bm)) (hx : act.eval x = .int .u32 (a : Int))
    (hK : wpList Tryz.prog ops Q rest (act.put o.dst (.tuple #[.agg (plcC p), .bool kn])) W), wpList Tryz.prog ops Q (o :: rest) act W := fun _ _ _ _ _ hg m x hop hm hx hK => wpList_lookup_plc W hg m x hop bm r r.length a ha hm hown hx (by rw [hp, hk]; exact hK)
  have HL := hideE hlk
  rw [hp] at HR'
  rw [hk] at HW
  clear hlk hp hk hown
  go_enter Tryz.func63, Tryz.ntmps63
  go_upto_region 1 with (first
    | (at_lookup; refine HL.out _ _ _ _ _ rfl _ _ rfl rfl rfl ?_)
    | (refine wpList_store_row rfl 92 _ _ rfl W.heap.size _ rfl rfl _ _ (heap_alloc_new W _) (by kernel_rfl) rfl (by kernel_rfl) ?_))
  refine gen_world (ClP lo B bm br bw r wait (.slice vp wait.length vc) W (.slice vp wait.length vc) p) (HN.out _ p) ?_
  intro wa h1
  obtain ⟨c1, c2, c3, c4, c5⟩ := h1.cells
  have H1 := hideE h1
  obtain ⟨pe, pn, pl⟩ := p
  clear c0
  cases kn
  · have hrow := h1.cl.row
    have hsz : B ≤ wa.heap.size := Nat.le_trans hB h1.cl.fr.low.size
    clear h1
    go_upto_region 3 with (at_builtin; refine wpList_append_own_at _ rfl _ _ 24 rfl B 22 i0 (.int .u32 0) 1 4 Tryz.underlying24 hi hz0 hz1 hz2 rfl (by decide) _ _ _ rfl (hrow.alloc _) ⟨_, 0, none⟩ 1 1 [.int .u32 (a : Int)] rfl rfl (cell_one_new _ _ _) (by simp [Value.oneCell']) (by unfold maxLen; omega) (by omega) (by simp; omega) ?_; intro v' w3 hown' hgrow _ hat; obtain ⟨vp', vc', rfl⟩ := own_slice' hown'; obtain ⟨d1, d2⟩ := H1.out.cl.wboxG HS.out hgrow)
    refine gen_world (ClP lo B bm br bw r (wait ++ [a]) (.slice vp wait.length vc) W (.slice vp' (wait.length + 1) vc') ⟨pe, pn, pl⟩) (H1.out.push HS.out HB.out rfl hown' hgrow hat) ?_
    intro wb h2
    clear hown' hgrow hat hrow hsz H1 c1 c2 c3 c4 c5 d1 d2
    obtain ⟨c1, c2, c3, c4, c5⟩ := h2.cells
    have HP := hideE (h2.led HS.out HB.out (pl || l))
    clear h2
    cases pl
    · go_upto_region 4 with fail
      refine gen_world (ClP lo B bm br bw r (wait ++ [a]) (.slice vp wait.length vc) W (.slice vp' (wait.length + 1) vc') ⟨pe, pn, false || l⟩) HP.out ?_
      intro wc h3
      obtain ⟨c1, _, _, _, _⟩ := h3.cells
      have hbx := h3.box
      have hcl := h3.cl
      have hoo := hcl.own
      clear h3 HP
      go_wp2_with (first
        | (refine wpList_load_row rfl 92 _ rfl W.heap.size rfl _ _ _ _ hbx Tryz.underlying92 rfl (by kernel_rfl) ?_)
        | (at_mapUpdate; refine wpList_update_plc _ rfl _ _ _ rfl bm r hR a ha ⟨pe, pn, false || l⟩ rfl hoo rfl rfl ?_; intro w5 hown5 hg5))
      go_end0
      exact ⟨rfl, _, by rw [HR'.out, HW.out]; exact hcl.put HS.out HB.out hown5 hg5⟩
    · go_upto_region 4 with fail
      refine gen_world (ClP lo B bm br bw r (wait ++ [a]) (.slice vp wait.length vc) W (.slice vp' (wait.length + 1) vc') ⟨pe, pn, true || l⟩) HP.out ?_
      intro wc h3
      obtain ⟨c1, _, _, _, _⟩ := h3.cells
      have hbx := h3.box
      have hcl := h3.cl
      have hoo := hcl.own
      clear h3 HP
      go_wp2_with (first
        | (refine wpList_load_row rfl 92 _ rfl W.heap.size rfl _ _ _ _ hbx Tryz.underlying92 rfl (by kernel_rfl) ?_)
        | (at_mapUpdate; refine wpList_update_plc _ rfl _ _ _ rfl bm r hR a ha ⟨pe, pn, true || l⟩ rfl hoo rfl rfl ?_; intro w5 hown5 hg5))
      go_end0
      exact ⟨rfl, _, by rw [HR'.out, HW.out]; exact hcl.put HS.out HB.out hown5 hg5⟩
  · clear h1
    go_upto_region 3 with fail
    refine gen_world (ClP lo B bm br bw r wait (.slice vp wait.length vc) W (.slice vp wait.length vc) ⟨pe, pn, pl⟩) H1.out ?_
    intro wb h2
    clear H1 c1 c2 c3 c4 c5
    obtain ⟨c1, c2, c3, c4, c5⟩ := h2.cells
    have HP := hideE (h2.led HS.out HB.out (pl || l))
    clear h2
    cases pl
    · go_upto_region 4 with fail
      refine gen_world (ClP lo B bm br bw r wait (.slice vp wait.length vc) W (.slice vp wait.length vc) ⟨pe, pn, false || l⟩) HP.out ?_
      intro wc h3
      obtain ⟨c1, _, _, _, _⟩ := h3.cells
      have hbx := h3.box
      have hcl := h3.cl
      have hoo := hcl.own
      clear h3 HP
      go_wp2_with (first
        | (refine wpList_load_row rfl 92 _ rfl W.heap.size rfl _ _ _ _ hbx Tryz.underlying92 rfl (by kernel_rfl) ?_)
        | (at_mapUpdate; refine wpList_update_plc _ rfl _ _ _ rfl bm r hR a ha ⟨pe, pn, false || l⟩ rfl hoo rfl rfl ?_; intro w5 hown5 hg5))
      go_end0
      exact ⟨rfl, _, by rw [HR'.out, HW.out]; exact hcl.put HS.out HB.out hown5 hg5⟩
    · go_upto_region 4 with fail
      refine gen_world (ClP lo B bm br bw r wait (.slice vp wait.length vc) W (.slice vp wait.length vc) ⟨pe, pn, true || l⟩) HP.out ?_
      intro wc h3
      obtain ⟨c1, _, _, _, _⟩ := h3.cells
      have hbx := h3.box
      have hcl := h3.cl
      have hoo := hcl.own
      clear h3 HP
      go_wp2_with (first
        | (refine wpList_load_row rfl 92 _ rfl W.heap.size rfl _ _ _ _ hbx Tryz.underlying92 rfl (by kernel_rfl) ?_)
        | (at_mapUpdate; refine wpList_update_plc _ rfl _ _ _ rfl bm r hR a ha ⟨pe, pn, true || l⟩ rfl hoo rfl rfl ?_; intro w5 hown5 hg5))
      go_end0
      exact ⟨rfl, _, by rw [HR'.out, HW.out]; exact hcl.put HS.out HB.out hown5 hg5⟩
end Go.Proofs.YtcffpmicencfpabGreat
namespace Go.Proofs.YtcffpmicencfpabGreat
open Go.RowKit Go.Lib Go.Sort Go.Maps Ip Bl Pm
set_option linter.unusedSimpArgs false
set_option linter.unusedVariables false

def imgC (i : Img) (v : Value) : Array Value := #[.int .u32 (i.base.toNat : Int), .int .u32 (i.entry.toNat : Int), v, .int .i64 (i.seg : Int)]
/-- The map of places and the list of what waits, as they stand. -/
structure Rc (w : World) (i : Img) (u : Value) (r : Plcs) (wait : List Nat) (v : Value) (W : World) : Prop where
  ib : W.heap[w.heap.size]? = some (.cells (imgC i u) 26 (0, 0))
  low : Below w.heap.size w W
  big : w.heap.size + 4 ≤ W.heap.size
  rbox : W.heap[w.heap.size + 2]? = some (.cells #[.map (some (w.heap.size + 1))] 85 (0, 0))
  wbox : W.heap[w.heap.size + 3]? = some (.cells #[v] 24 (0, 0))
  row : W.ownsRow (w.heap.size + 4) 22 1 v wait.length (wait.map wordV)
  own : W.ownsMap Tryz.prog 22 plcElem (w.heap.size + 1) r.length (D r)
variable {w : World} {i : Img} {u : Value} {r : Plcs} {wait : List Nat} {v : Value} {W W' : World}
theorem sepR (w : World) : Sep (w.heap.size + 1) (w.heap.size + 4) (w.heap.size + 1) (w.heap.size + 2) (w.heap.size + 3) := by
  constructor <;> omega
theorem Rc.cl (h : Rc w i u r wait v W) : Cl (w.heap.size + 1) (w.heap.size + 4) (w.heap.size + 1) (w.heap.size + 2) (w.heap.size + 3) r wait v W v W := ⟨h.rbox, h.wbox, h.row, h.own, Fr.refl _ _ _ _ _, .inl rfl⟩
theorem Rc.of_cl (h : Rc w i u r wait v W) {r' : Plcs} {wait' : List Nat} {v' : Value} (hc : Cl (w.heap.size + 1) (w.heap.size + 4) (w.heap.size + 1) (w.heap.size + 2) (w.heap.size + 3) r' wait' v W v' W') : Rc w i u r' wait' v' W' :=
  ⟨(hc.fr.low.block _ (Nat.lt_succ_self _)).trans h.ib, h.low.trans (hc.fr.low.mono (Nat.le_succ _)), Nat.le_trans h.big hc.fr.low.size, hc.rbox, hc.wbox, hc.row, hc.own⟩
theorem Rc.ext (h : Rc w i u r wait v W) (hb : Below W.heap.size W W') : Rc w i u r wait v W' := h.of_cl (h.cl.ext (sepR w) h.big hb)
theorem Rc.cells (h : Rc w i u r wait v W) : W.cell? ⟨w.heap.size + 2, 0, none⟩ = some (.map (some (w.heap.size + 1))) ∧ W.cell? ⟨w.heap.size + 3, 0, none⟩ = some v ∧ W.frozen? ⟨w.heap.size + 3, 0, none⟩ = false ∧ W.cell? ⟨w.heap.size, 1, none⟩ = some (.int .u32 (i.entry.toNat : Int)) := by
  refine ⟨?_, ?_, ?_, ?_⟩
  · simp [World.cell?, h.rbox]
  · simp [World.cell?, h.wbox]
  · simp [World.frozen?, h.wbox]
  · simp [World.cell?, h.ib, imgC]
/-- A box that is no row of words, laid since, is written. -/
theorem Rc.box (h : Rc w i u r wait v W) {g : Nat} {cs : Array Value} {t : TypeId} {fr : Nat × Nat} (hg0 : w.heap.size + 4 ≤ g) (hbx : W.heap[g]? = some (.cells cs t fr)) (ht : t ≠ 22) (hg : W.grownBy W' (some g)) : Rc w i u r wait v W' := by
  have hv : v.ownBlock ≠ some g := fun e => by
    rcases h.row.2 with ⟨e1, _⟩ | ⟨g', cap, cur, e1, _, hb, _⟩
    · rw [e1] at e; cases e
    · rw [e1] at e
      obtain rfl : g' = g := by simpa [Value.ownBlock] using e
      rw [hbx] at hb
      injection hb with hb
      injection hb with _ hb
      exact ht hb
  have hk : ∀ k, k < w.heap.size + 4 → W'.heap[k]? = W.heap[k]? := fun k hk => hg.block k (by have := h.big; omega) (by intro e; injection e; omega)
  exact ⟨(hk _ (by omega)).trans h.ib, h.low.grown hg (by have := h.big; omega) (fun k e => by cases e; omega), Nat.le_trans h.big hg.size, (hk _ (by omega)).trans h.rbox, (hk _ (by omega)).trans h.wbox, h.row.kept hg (.inr hv), h.own.kept hg (by intro e; injection e; omega)⟩
/-- The map is written. -/
theorem Rc.put (h : Rc w i u r wait v W) {r' : Plcs} (hown : W'.ownsMap Tryz.prog 22 plcElem (w.heap.size + 1) r'.length (D r')) (hg : W.grownBy W' (some (w.heap.size + 1))) : Rc w i u r' wait v W' := h.of_cl (h.cl.put (sepR w) h.big hown hg)
theorem own_less {W : World} {B : Nat} {t : TypeId} {p : Option Addr} {c n : Nat} {x : Value} {xs : List Value} (h : W.ownsRow B t 1 (.slice p (n + 1) c) (n + 1) (xs ++ [x])) : W.ownsRow B t 1 (.slice p n c) n xs := by
  have hl := h.1
  simp at hl
  rcases h.2 with ⟨e, _⟩ | ⟨g', cap, cur, e, h1, h2, h3, h4, h5, h6⟩
  · cases e
  · injection e with e1 e2 e3
    subst e1 e3
    refine ⟨by simpa using hl, .inr ⟨g', c, cur, rfl, h1, h2, by omega, h4, h5, ?_⟩⟩
    have := congrArg (List.take n) h6
    rw [List.take_take, List.take_append_of_le_length (by omega), List.take_of_length_le (l := xs) (by omega)] at this
    rw [show min n ((n + 1) * 1) = n * 1 by omega] at this
    exact this
/-- The last of what waits is taken. -/
theorem Rc.pop {p : Option Addr} {c n : Nat} {a : Nat} {wait' : List Nat} (h : Rc w i u r (wait' ++ [a]) (.slice p (n + 1) c) W) (hn : wait'.length = n) : Rc w i u r wait' (.slice p n c) (W.setCell ⟨w.heap.size + 3, 0, none⟩ (.slice p n c)) := by
  have hs' : W.grownBy (W.setCell ⟨w.heap.size + 3, 0, none⟩ (.slice p n c)) (some (w.heap.size + 3)) := grown_setCell W ⟨w.heap.size + 3, 0, none⟩ (.slice p n c)
  have hbig := h.big
  have hk : ∀ k, k < W.heap.size → k ≠ w.heap.size + 3 → (W.setCell ⟨w.heap.size + 3, 0, none⟩ (.slice p n c)).heap[k]? = W.heap[k]? := fun k _ hk => Below.heap_setCell _ _ _ _ hk
  have hrow : W.ownsRow (w.heap.size + 4) 22 1 (.slice p n c) wait'.length (wait'.map wordV) := by
    have := h.row
    rw [List.length_append, List.map_append, List.length_singleton, hn] at this
    rw [hn]
    exact own_less this
  refine ⟨(hk _ (by omega) (by omega)).trans h.ib, h.low.setCell (by show w.heap.size ≤ w.heap.size + 3; omega) _, by simpa using hbig, (hk _ (by omega) (by omega)).trans h.rbox, ?_, hrow.kept hs' (.inr fun e => by have := (hrow.lt _ e).1; omega), h.own.kept hs' (by intro e; injection e; omega)⟩
  have := heap_setCell_same W (w.heap.size + 3) 0 #[.slice p (n + 1) c] 24 (.slice p n c) h.wbox
  simpa using this
theorem Rc.start (w : World) (i : Img) (u : Value) : Rc w i u [] [] (.slice none 0 0) ((((w.alloc (.cells (imgC i u) 26)).alloc (.map #[] 0)).alloc (.cells #[.map (some (w.heap.size + 1))] 85)).alloc (.cells #[.slice none 0 0] 24)) := by
  have e1 := heap_alloc_new w (.cells (imgC i u) 26)
  have e2 := World.ownsMap_made (w.alloc (.cells (imgC i u) 26)) Tryz.prog 22 plcElem
  have e3 := heap_alloc_new ((w.alloc (.cells (imgC i u) 26)).alloc (.map #[] 0)) (.cells #[.map (some (w.heap.size + 1))] 85)
  have e4 := heap_alloc_new (((w.alloc (.cells (imgC i u) 26)).alloc (.map #[] 0)).alloc (.cells #[.map (some (w.heap.size + 1))] 85)) (.cells #[.slice none 0 0] 24)
  simp only [World.size_alloc] at e1 e2 e3 e4
  refine ⟨?_, ?_, by simp, ?_, e4, World.ownsRow_nil _ _ _ _, (e2.alloc _).alloc _⟩
  · rw [Below.heap_alloc _ _ _ (by simp; omega), Below.heap_alloc _ _ _ (by simp; omega), Below.heap_alloc _ _ _ (by simp)]; exact e1
  · exact ((((Below.refl _ w).alloc (Nat.le_refl _) _).alloc (by simp) _).alloc (by simp; omega) _).alloc (by simp; omega) _
  · rw [Below.heap_alloc _ _ _ (by simp)]; exact e3
end Go.Proofs.YtcffpmicencfpabGreat
