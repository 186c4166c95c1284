/-
  Contract of the code's Node; a copied slice of terms.
  Contract of the code's Copy.
  Contract of the code's Copy, walked.
-/
import Derived.Shelf.SlMaps.Clone
import Derived.Test.YthlefedljgmmfabZW3
import Derived.Test.YthlefedljgmmfabZW7
namespace Go.Proofs.Ythlefedljgmmfab
open Go.RowKit Go.Lib Go.Shelf Tm
set_option linter.unusedSimpArgs false
set_option linter.unusedVariables false

theorem results_row_tmpT {P : Program} {fn : Func} {p u : Tmp} {ty : TypeId} (h : fn.results = #[.cell p ty, .tmp u]) (tmps : Array Value) (w : World) (g : Nat) (t : TypeId) (cs : Array Value) (fr : Nat × Nat) (d : TypeDesc)
    (hp : tmps.getD p undef = .pointer (some ⟨g, 0, none⟩)) (hg : w.heap[g]? = some (.cells cs t fr))
    (hu : P.underlying ty = some d) (hd : (match d with | .struct _ | .array _ _ => true | _ => false) = true) (hi : (P.info? ty).map (·.size) = some cs.size) :
    (results fn tmps).run P w = .ok (.tuple #[.agg cs, tmps.getD u undef]) w := by
  have hp' : tmps[p]?.getD undef = .pointer (some ⟨g, 0, none⟩) := by simpa using hp
  simp [results, h, hp', asAddr, run_loadVar_row w g t ty cs fr d hg hu hd hi]
/-- A term of the object, cell by cell. -/
theorem CDag.term {W : World} {g : Nat} {L : List Trm} {fp : Nat → Prop} (h : CDag W g L fp) {k : Nat} {t : Trm} (ht : L[k]? = some t) : ∃ gs c, (W.cell? ⟨g, 1, none⟩ = some (.slice (some ⟨gs, 0, none⟩) L.length c)) ∧
    (W.cell? ⟨gs, k * 5, none⟩ = some (.int .i64 t.kind) ∧ W.cell? ⟨gs, k * 5 + 1, none⟩ = some (.int .u32 (t.v.toNat : Int)) ∧ W.cell? ⟨gs, k * 5 + 2, none⟩ = some (.int .i64 t.op) ∧ W.cell? ⟨gs, k * 5 + 3, none⟩ = some (.int .i64 t.a) ∧ W.cell? ⟨gs, k * 5 + 4, none⟩ = some (.int .i64 t.b)) ∧
    (fp gs ∧ gs ≠ g) := by
  obtain ⟨v, dn, mp, hbx, hrow, hF, hfp⟩ := h
  obtain ⟨pv, cv, rfl⟩ := own_slice' hrow
  have hk := (List.getElem?_eq_some_iff.1 ht).1
  obtain ⟨gs, rfl⟩ := own_some hrow (by omega)
  have e := fun j (hj : j < 5) => (hrow.cellAt (k * 5 + j) (by omega)).trans (trmsC_get L ht hj)
  have e0 := e 0 (by decide)
  have e1 := e 1 (by decide)
  have e2 := e 2 (by decide)
  have e3 := e 3 (by decide)
  have e4 := e 4 (by decide)
  simp only [Nat.add_zero, trmC, List.getElem?_cons_zero, List.getElem?_cons_succ] at e0 e1 e2 e3 e4
  refine ⟨gs, cv, by simp [World.cell?, hbx, dagC], ⟨e0, e1, e2, e3, e4⟩, (hfp gs).2 (.inr (.inl rfl)), fun c => ?_⟩
  exact row_boxT hrow hbx (by decide) (by rw [c]; rfl)
variable {g : Nat} {L : List Trm} {fp : Nat → Prop}
set_option maxHeartbeats 2000000 in
set_option maxRecDepth 100000 in
theorem tnode_any (n : Int) (w : World) (h : CDag w g L fp) :
    Calls Try.prog 10 #[ptrV g, .int .i64 n] w fun e w' => e = .returned (.tuple #[.agg (termC (nodeT L n)), .int .i64 (nodeE L n : Int)]) ∧ Below w.heap.size w w' := by
  have b0 := (Below.refl _ w).alloc (Nat.le_refl _) (.cells #[.int .i64 0, .int .u32 0, .int .i64 0, .int .i64 0, .int .i64 0] 36)
  have h1 := h.ext b0
  have HA := hideE (thas_any n _ h1)
  have HB := hideE ((Below.refl _ w).alloc (Nat.le_refl _) (.cells (termC (nodeT L n)) 36))
  have hx := heap_alloc_new w (.cells (termC (nodeT L n)) 36)
  have HX := hideE hx
  by_cases hh : hasN L n = true
  · have hne : nodeE L n = 0 := by unfold nodeE; rw [if_pos hh]
    have hN := of_decide_eq_true hh
    obtain ⟨d, rfl⟩ := Int.eq_ofNat_of_zero_le hN.1
    have hd : d < L.length := by omega
    have ht : L[d]? = some L[d] := List.getElem?_eq_getElem hd
    have hnt : nodeT L (d : Int) = L[d] := by unfold nodeT; rw [if_pos hh, Int.toNat_natCast, List.getD_eq_getElem?_getD, ht]; rfl
    obtain ⟨gs, c, c1, ⟨e0, e1, e2, e3, e4⟩, hfs, hsg⟩ := h1.term ht
    rw [hh] at HA
    rw [hnt] at HX HB
    have HN := hideE hnt
    have HE := hideE hne
    generalize L[d] = t at e0 e1 e2 e3 e4 HX HB HN
    obtain ⟨tk, tv, tp, ta, tb⟩ := t
    have hgs : gs ≠ w.heap.size := fun e => by have := h.lt gs hfs; omega
    have hk0 : (0 : Int) ≤ (d : Int) := by omega
    obtain ⟨m, hm⟩ : ∃ m, L.length = m := ⟨_, rfl⟩
    rw [hm] at c1 hd
    have hkn : (d : Int) < (m : Int) := by omega
    have HM := hideE hm
    clear h h1 b0 hx hh hne hN ht hnt hfs hsg hm
    simp only [ptrV] at HA ⊢
    simp only [termC] at HX HB
    go_enter Try.func10, Try.ntmps10
    go_wp2_with (go_at_call 23; refine HA.out.mono ?_; rintro e w1 ⟨rfl, rfl⟩)
    refine bodyPost_ret (results_row_tmpT (p := 4) (u := 5) (by kernel_rfl) _ _ w.heap.size _ _ _ _ (by kernel_rfl) HX.out Try.underlying36 rfl (by kernel_rfl)) rfl ?_
    exact ⟨by rw [HN.out, HE.out]; rfl, HB.out⟩
  · have hne : nodeE L n = 100 := by unfold nodeE; rw [if_neg hh]
    have hnt : nodeT L n = noT := by unfold nodeT; rw [if_neg hh]
    rw [show hasN L n = false by simpa using hh] at HA
    rw [hnt] at HX HB
    have HN := hideE hnt
    have HE := hideE hne
    clear h h1 b0 hx hh hne hnt
    simp only [ptrV] at HA ⊢
    have HX2 : Hid ((w.alloc (.cells #[.int .i64 0, .int .u32 0, .int .i64 0, .int .i64 0, .int .i64 0] 36)).heap[w.heap.size]? = some (.cells #[.int .i64 0, .int .u32 0, .int .i64 0, .int .i64 0, .int .i64 0] 36 (0, 0))) := HX
    have HB2 : Hid (Below w.heap.size w (w.alloc (.cells #[.int .i64 0, .int .u32 0, .int .i64 0, .int .i64 0, .int .i64 0] 36))) := HB
    go_enter Try.func10, Try.ntmps10
    go_wp2_with (go_at_call 23; refine HA.out.mono ?_; rintro e w1 ⟨rfl, rfl⟩)
    refine bodyPost_ret (results_row_tmpT (p := 4) (u := 5) (by kernel_rfl) _ _ w.heap.size _ _ _ _ (by kernel_rfl) HX2.out Try.underlying36 rfl (by kernel_rfl)) rfl ?_
    exact ⟨by rw [HN.out, HE.out]; rfl, HB2.out⟩
end Go.Proofs.Ythlefedljgmmfab
namespace Go.Proofs.Ythlefedljgmmfab
open Go.RowKit Go.Lib Go.Shelf Tm
set_option linter.unusedSimpArgs false
set_option linter.unusedVariables false

set_option maxHeartbeats 2000000 in
set_option maxRecDepth 100000 in
theorem mclone_any (b n : Nat) (D : DataW Unit) (w : World) (hown : numsAt w b n D) :
    Calls Try.prog 20 #[.map (some b)] w fun e w' => e = .returned (.map (some w.heap.size)) ∧ numsAt w' w.heap.size n D ∧ Below w.heap.size w w' := by
  have hlt := hown.lt
  obtain ⟨es, clock, hb, r⟩ := hown
  have hq := fun w => run_eql_map_nil_sl (P := Try.prog) w 59 _ _ (some b) Try.underlying59
  have HR := hideE r
  clear r
  go_enter Try.func20, Try.ntmps20
  go_wp2
  rw [run_callFunc_extern Try.func34 (by kernel_rfl) (by kernel_rfl) (by kernel_rfl) (e := Extern.MapsClone.clone) (by kernel_rfl), run_maps_clone_sl w 59 hb]
  simp only [Result.andThen]
  rw [Oper.upon_value]
  go_wp2
  rw [run_typeAssert_map_sl _ 59 20 _ _ _ Try.underlying59]
  simp only [Result.andThen]
  rw [Oper.upon_value]
  go_wp2
  go_ret
  exact ⟨rfl, ⟨es, clock, (MapKept.heap_alloc w _).1, HR.out⟩, (Below.refl _ w).alloc (Nat.le_refl _) _⟩
theorem trms_one (L : List Trm) : ∀ u ∈ trmsC L, u.oneCell' = true := fun u hu => by
  obtain ⟨g, _, hg⟩ := List.mem_flatMap.1 hu
  simp only [trmC, List.mem_cons, List.not_mem_nil, or_false] at hg
  rcases hg with rfl | rfl | rfl | rfl | rfl <;> rfl
set_option maxHeartbeats 1000000 in
theorem tclone_nil (n c : Nat) (w : World) :
    Calls Try.prog 16 #[.slice none n c] w fun e w' => e = .returned (.slice none 0 0) ∧ w' = w := by
  have q22 : ∀ (w : World) (a : Option Addr) (n c n' c' : Nat), (binOp .eql 49 (.slice a n c) (.slice none n' c')).run Try.prog w = .ok (.bool a.isNone) w := fun w a n c n' c' => Lib.run_eql_slice_nil w _ _ a n c n' c' Try.underlying49
  go_enter Try.func16, Try.ntmps16
  go_wp2
  go_ret
  exact ⟨rfl, rfl⟩
set_option maxHeartbeats 2000000 in
set_option maxRecDepth 100000 in
theorem tclone_some (a : Addr) (n c : Nat) (news : List Value) (w : World) (hl : news.length = n * 5) (hn : n ≤ 1000000)
    (hc : ∀ j u, news[j]? = some u → w.cell? (a.add j) = some u) (h1 : ∀ u ∈ news, u.oneCell' = true) :
    Calls Try.prog 16 #[.slice (some a) n c] w fun e w' => ∃ v', e = .returned v' ∧ w'.ownsRow w.heap.size 36 5 v' n news ∧ Below w.heap.size w w' := by
  obtain ⟨i0, hi, hz0, hz1, hz2⟩ := info_parts infoTm
  have q22 : ∀ (w : World) (a : Option Addr) (n c n' c' : Nat), (binOp .eql 49 (.slice a n c) (.slice none n' c')).run Try.prog w = .ok (.bool a.isNone) w := fun w a n c n' c' => Lib.run_eql_slice_nil w _ _ a n c n' c' Try.underlying49
  have HC := hideE hc
  clear hc
  go_enter Try.func16, Try.ntmps16
  go_wp2_with (at_builtin; refine wpList_append_own _ rfl _ _ 49 rfl w.heap.size 36 i0 (.agg #[.int .i64 0, .int .u32 0, .int .i64 0, .int .i64 0, .int .i64 0]) 5 40 Try.underlying49 hi hz0 hz1 hz2 rfl (by decide) _ _ _ rfl (World.ownsRow_made w #[] 0 (Nat.le_refl _) (Nat.zero_le _) (by simp)) a n c news rfl ?qc1 ?qc2 ?qc3 ?qc4 ?qc5 ?qc6 ?_)
  case qc1 => exact hl
  case qc2 =>
    intro j u hj
    exact Lib.cell?_alloc_some _ (HC.out j u hj)
  case qc3 => exact h1
  case qc4 => rw [Nat.zero_add]; unfold maxLen; omega
  case qc5 => rw [Nat.zero_add]; omega
  case qc6 => simp
  intro v' w1 hown hgrow hnil
  go_wp2
  go_ret
  refine ⟨v', rfl, by simpa using hown, ?_⟩
  exact ((Below.refl _ w).alloc (Nat.le_refl _) _).grown hgrow (by simp) (by intro k hk; simp [Value.ownBlock] at hk; omega)
theorem tclone_any {v : Value} {L : List Trm} (hl : L.length ≤ 1000) (w : World) (h : w.ownsRow 0 36 5 v L.length (trmsC L)) :
    Calls Try.prog 16 #[v] w fun e w' => ∃ v', e = .returned v' ∧ w'.ownsRow w.heap.size 36 5 v' L.length (trmsC L) ∧ Below w.heap.size w w' := by
  rcases h.2 with ⟨rfl, e⟩ | ⟨g', cap, cur, rfl, _⟩
  · refine (tclone_nil 0 0 w).mono ?_
    rintro e w' ⟨rfl, rfl⟩
    have hL : L = [] := List.length_eq_zero_iff.1 e
    subst hL
    exact ⟨_, rfl, World.ownsRow_nil _ _ _ _, Below.refl _ _⟩
  · exact tclone_some ⟨g', 0, none⟩ L.length cap (trmsC L) w (trmsC_len L) (by omega) (h.cells (g := g') rfl) (trms_one L)
/-- numbers, of an object. -/
theorem numbers_dag {g : Nat} {L : List Trm} {fp : Nat → Prop} (w : World) (h : CDag w g L fp) :
    Calls Try.prog 21 #[ptrV g] w fun e W => ∃ b fp', e = .returned (.map (some b)) ∧ CDag W g L fp' ∧ numsAt W b L.length (numD L) ∧ Chg fp fp' w W := by
  obtain ⟨v, dn, mp, hbx, hrow, hF, hfp⟩ := h
  refine (tnumbers_any w hbx hF).mono ?_
  rintro e W ⟨b, rfl, h1, h2, h3, h4⟩
  refine ⟨b, fun k => k = g ∨ v.ownBlock = some k ∨ some b = some k, rfl, ⟨v, 1, some b, h2, hrow.kept h4 (.inr (fun e => row_boxT hrow hbx (by decide) e.symm)), .inr ⟨rfl, b, rfl, h3⟩, fun k => Iff.rfl⟩, h3, h4.os, h4.tape, h4.output, h4.size, fun k hk hf => h4.block k hk (fun e => hf ((hfp k).2 (.inl (by injection e)))), fun k hk => ?_⟩
  rcases hk with e | e | e
  · exact .inl ((hfp k).2 (.inl e))
  · exact .inl ((hfp k).2 (.inr (.inl e)))
  · injection e with e
    rcases h1 with h | h
    · exact .inl ((hfp k).2 (.inr (.inr (by rw [h, e]))))
    · exact .inr (by omega)
/-- While Copy is at work: the boxes of d and c, the new object, and the old one. -/
structure CpS (w : World) (g gc cb : Nat) (L : List Trm) (fp0 fp1 : Nat → Prop) (v : Value) (cs : Array Value) (W : World) : Prop where
  db : W.heap[w.heap.size]? = some (.cells #[ptrV g] 24 (0, 0))
  cbx : W.heap[cb]? = some (.cells #[ptrV gc] 24 (0, 0))
  gcx : W.heap[gc]? = some (.cells cs 61 (0, 0))
  row : W.ownsRow w.heap.size 36 5 v L.length (trmsC L)
  dag : CDag W g L fp1
  chg : Chg fp0 fp1 w W
  new : w.heap.size < gc ∧ w.heap.size < cb
  free : ∀ k, fp1 k → k ≠ w.heap.size ∧ k ≠ gc ∧ k ≠ cb ∧ v.ownBlock ≠ some k
section
variable {w W W' : World} {g gc cb : Nat} {L : List Trm} {fp0 fp1 fp2 : Nat → Prop} {v : Value} {cs ds : Array Value}
theorem CpS.ne (h : CpS w g gc cb L fp0 fp1 v cs W) : gc ≠ cb ∧ v.ownBlock ≠ some w.heap.size ∧ v.ownBlock ≠ some gc ∧ v.ownBlock ≠ some cb := by
  refine ⟨fun e => ?_, fun e => row_boxT h.row h.db (by decide) e.symm, fun e => row_boxT h.row h.gcx (by decide) e.symm, fun e => row_boxT h.row h.cbx (by decide) e.symm⟩
  have h1 := h.cbx
  rw [← e, h.gcx] at h1; injection h1 with h1; injection h1 with _ h1; exact absurd h1 (by decide)
theorem CpS.set (h : CpS w g gc cb L fp0 fp1 v cs W) (k : Nat) (u : Value) (hd : cs.setIfInBounds k u = ds) : CpS w g gc cb L fp0 fp1 v ds (W.setCell ⟨gc, k, none⟩ u) := by
  obtain ⟨n1, n2, n3, n4⟩ := h.ne
  have hgr := grownT_set W ⟨gc, k, none⟩ u
  refine ⟨(Below.heap_setCell _ _ _ _ (by have := h.new; show w.heap.size ≠ gc; omega)).trans h.db, (Below.heap_setCell _ _ _ _ (fun e => n1 e.symm)).trans h.cbx, setT h.gcx hd, h.row.kept hgr (.inr n3), h.dag.keep hgr.size (fun k hk => Below.heap_setCell _ _ _ _ (h.free k hk).2.1), ?_, h.new, h.free⟩
  have hc := h.chg
  refine ⟨hc.os, hc.tape, hc.output, by simpa using hc.size, fun j hj hf => ?_, hc.grow⟩
  exact (Below.heap_setCell _ _ _ _ (by have := h.new; show j ≠ gc; omega)).trans (hc.block j hj hf)
theorem CpS.turn (h : CpS w g gc cb L fp0 fp1 v cs W) (hd : CDag W' g L fp2) (hc : Chg fp1 fp2 W W') : CpS w g gc cb L fp0 fp2 v cs W' := by
  obtain ⟨n1, n2, n3, n4⟩ := h.ne
  have l1 := (Array.getElem?_eq_some_iff.1 h.db).1
  have l2 := (Array.getElem?_eq_some_iff.1 h.cbx).1
  have l3 := (Array.getElem?_eq_some_iff.1 h.gcx).1
  refine ⟨(hc.block _ l1 (fun c => (h.free _ c).1 rfl)).trans h.db, (hc.block _ l2 (fun c => (h.free _ c).2.2.1 rfl)).trans h.cbx, (hc.block _ l3 (fun c => (h.free _ c).2.1 rfl)).trans h.gcx, ⟨h.row.1, ?_⟩, hd, h.chg.trans hc, h.new, fun k hk => ?_⟩
  · rcases h.row.2 with e | ⟨g', cap, cur, rfl, hb, hg, rest⟩
    · exact .inl e
    · exact .inr ⟨g', cap, cur, rfl, hb, (hc.block _ (Array.getElem?_eq_some_iff.1 hg).1 (fun c => (h.free _ c).2.2.2 rfl)).trans hg, rest⟩
  · rcases hc.grow k hk with c | c
    · exact h.free k c
    · exact ⟨by omega, by omega, by omega, fun e => by have := (h.row.lt k e).2; omega⟩
theorem CpS.below (h : CpS w g gc cb L fp0 fp1 v cs W) (hb : Below W.heap.size W W') : CpS w g gc cb L fp0 fp1 v cs W' := h.turn (h.dag.ext hb) (Chg.of_below hb)
end
end Go.Proofs.Ythlefedljgmmfab
namespace Go.Proofs.Ythlefedljgmmfab
open Go.RowKit Go.Lib Go.Shelf Tm
set_option linter.unusedSimpArgs false
set_option linter.unusedVariables false

theorem box1T {W : World} {b : Nat} {a0 : Value} {t : TypeId} (h : W.heap[b]? = some (.cells #[a0] t (0, 0))) : W.cell? ⟨b, 0, none⟩ = some a0 := by simp [World.cell?, h]
/-- The new object, at its ways through Copy. -/
def cpC (cnt : Nat) (v : Value) (dn st : Int) (mp : Option Nat) : Array Value := #[.int .i64 (cnt : Int), v, .int .u32 dn, .int .i32 st, .int .u32 0, .map mp]
variable {w W W' : World} {g gc cb : Nat} {L : List Trm} {fp0 fp1 fp2 : Nat → Prop} {v : Value}
set_option maxHeartbeats 4000000 in
set_option maxRecDepth 100000 in
theorem copy1_any {cnt : Nat} (h : CpS w g gc cb L fp0 fp1 v (cpC cnt v 0 1 none) W) :
    Calls Try.prog 19 #[.pointer (some ⟨w.heap.size, 0, none⟩), .pointer (some ⟨cb, 0, none⟩)] W fun e W' => e = .returned (.tuple #[]) ∧ ∃ fp2 b2, CpS w g gc cb L fp0 fp2 v (cpC cnt v 0 1 (some b2)) W' ∧ numsAt W' b2 L.length (numD L) ∧ w.heap.size ≤ b2 ∧ ¬ fp2 b2 := by
  have d0 := box1T h.db
  have d1 := box1T h.cbx
  simp only [ptrV] at d0 d1
  have hd := h.below (Below.refl _ W).drew
  have HN : Hid (Calls Try.prog 21 #[.pointer (some ⟨g, 0, none⟩)] W.drew fun e W2 => ∃ b fp2, e = .returned (.map (some b)) ∧ CpS w g gc cb L fp0 fp2 v (cpC cnt v 0 1 none) W2 ∧ numsAt W2 b L.length (numD L)) := by
    refine (numbers_dag _ hd.dag).mono ?_
    rintro e W2 ⟨b, fp2, rfl, h1, h2, h3⟩
    exact ⟨b, fp2, rfl, hd.turn h1 h3, h2⟩
  have HM : Hid (∀ b W2, numsAt W2 b L.length (numD L) → Calls Try.prog 20 #[.map (some b)] W2 fun e W3 => e = .returned (.map (some W2.heap.size)) ∧ numsAt W3 W2.heap.size L.length (numD L) ∧ Below W2.heap.size W2 W3) := fun b W2 ho => mclone_any b _ _ W2 ho
  clear hd h
  go_enter Try.func19, Try.ntmps19
  go_wp2_with fail
  go_region_with (first
    | (go_at_call 21; refine HN.out.mono ?_; rintro e W2 ⟨b, fp2, rfl, h2, ho⟩; have p0 := box1T h2.db; have p1 := box1T h2.cbx; simp only [ptrV] at p0 p1; have H2 := hideE h2; have HO := hideE ho; clear h2 ho)
    | (go_at_call 20; refine (HM.out _ _ HO.out).mono ?_; rintro e W3 ⟨rfl, ho3, hb3⟩; have h3 := H2.out.below hb3; have r1 := box1T h3.cbx; simp only [ptrV] at r1; obtain ⟨⟨x0, x1, x2, x3, x4, x5⟩, y0, y1, y2, y3, y4, y5⟩ := sixT h3.gcx; clear x0 x1 x2 x3 x4 y0 y1 y2 y3 y4; have H3 := hideE h3; have HO3 := hideE ho3; clear h3 ho3 hb3))
  all_goals
    go_end0
    exact ⟨rfl, _, _, H3.out.set 5 _ rfl, HO3.out.setCell (fun e => by have := H3.out.gcx; obtain ⟨es, c, hb, _⟩ := HO3.out; rw [e, this] at hb; cases hb) _, by have := H2.out.chg.size; omega, fun c => by have := H2.out.dag.lt _ c; omega⟩
theorem copyDo {cnt : Nat} (h : CpS w g gc cb L fp0 fp1 v (cpC cnt v 0 0 none) W) :
    Calls Try.prog 18 #[.pointer (some ⟨gc, 2, none⟩), .func (.func 19) #[] #[.pointer (some ⟨w.heap.size, 0, none⟩), .pointer (some ⟨cb, 0, none⟩)]] W fun e W' => e = .returned (.tuple #[]) ∧ ∃ fp2 b2, CpS w g gc cb L fp0 fp2 v (cpC cnt v 1 0 (some b2)) W' ∧ numsAt W' b2 L.length (numD L) ∧ w.heap.size ≤ b2 ∧ ¬ fp2 b2 := by
  obtain ⟨⟨d0, d1, d2, d3, d4, d5⟩, z0, z1, z2, z3, z4, z5⟩ := sixT h.gcx
  have h1 := h.set 3 (.int .i32 1) (ds := cpC cnt v 0 1 none) rfl
  refine (doFirstO gc 2 19 #[.pointer (some ⟨w.heap.size, 0, none⟩), .pointer (some ⟨cb, 0, none⟩)] (enters_of Try.func19 (by kernel_rfl) rfl) (fun W' => ∃ fp2 b2, CpS w g gc cb L fp0 fp2 v (cpC cnt v 0 1 (some b2)) W' ∧ numsAt W' b2 L.length (numD L) ∧ w.heap.size ≤ b2 ∧ ¬ fp2 b2) W d2 d3 z2 z3 ?_).mono ?_
  · refine (copy1_any h1).mono ?_
    rintro e W' ⟨rfl, fp2, b2, k1, k2, k3, k4⟩
    obtain ⟨⟨x0, x1, x2, x3, x4, x5⟩, y0, y1, y2, y3, y4, y5⟩ := sixT k1.gcx
    exact ⟨rfl, ⟨x2, y2⟩, ⟨x3, y3⟩, fp2, b2, k1, k2, k3, k4⟩
  · rintro e W' ⟨rfl, w1, ⟨fp2, b2, k1, k2, k3, k4⟩, rfl⟩
    have k5 := k1.below (Below.refl _ w1).drew
    have k6 := k5.set 2 (.int .u32 1) (ds := cpC cnt v 1 1 (some b2)) rfl
    have k7 := k6.set 3 (.int .i32 0) (ds := cpC cnt v 1 0 (some b2)) rfl
    have hb : b2 ≠ gc := fun e => by have := k1.gcx; obtain ⟨es, c, hb, _⟩ := k2; rw [e, this] at hb; cases hb
    exact ⟨rfl, fp2, b2, k7, (k2.drew.setCell hb _).setCell hb _, k3, k4⟩
theorem row_baseT {B B' : Nat} {t : TypeId} {k n : Nat} {xs : List Value} (h : W.ownsRow B t k v n xs) (hB : B' ≤ B) : W.ownsRow B' t k v n xs := by
  refine ⟨h.1, ?_⟩
  rcases h.2 with e | ⟨g', cap, cur, e, hb, r⟩
  · exact .inl e
  · exact .inr ⟨g', cap, cur, e, Nat.le_trans hB hb, r⟩
/-- The beginning: behind the new object's making. -/
theorem CpS.start {w2 : World} (h : CDag w g L fp0) (hb : Below (w.heap.size + 1) (w.alloc (.cells #[ptrV g] 24)) w2) (hr : w2.ownsRow (w.heap.size + 1) 36 5 v L.length (trmsC L)) :
    CpS w g w2.heap.size (w2.heap.size + 1) L fp0 fp0 v (cpC 0 v 0 0 none) ((w2.alloc (.cells (cpC 0 v 0 0 none) 61)).alloc (.cells #[ptrV w2.heap.size] 24)) := by
  have b0 := (Below.refl _ w).alloc (Nat.le_refl _) (.cells #[ptrV g] 24)
  have hsz := hb.size
  rw [World.size_alloc] at hsz
  have b1 : Below w.heap.size w w2 := b0.trans (hb.mono (Nat.le_succ _))
  have b2 := (Below.refl _ w2).alloc (Nat.le_refl _) (.cells (cpC 0 v 0 0 none) 61)
  have b3 : Below w2.heap.size w2 ((w2.alloc (.cells (cpC 0 v 0 0 none) 61)).alloc (.cells #[ptrV w2.heap.size] 24)) := b2.alloc (by rw [World.size_alloc]; omega) _
  have e1 := heap_alloc_new w (.cells #[ptrV g] 24)
  have e2 := heap_alloc_new w2 (.cells (cpC 0 v 0 0 none) 61)
  have e3 := heap_alloc_new (w2.alloc (.cells (cpC 0 v 0 0 none) 61)) (.cells #[ptrV w2.heap.size] 24)
  rw [World.size_alloc] at e3
  have b4 := b1.trans (b3.mono (by omega))
  refine ⟨keptN b3 (keptE hb (Nat.lt_succ_self _) e1), e3, (Below.heap_alloc _ _ _ (by rw [World.size_alloc]; omega)).trans e2, row_baseT (keptT hr b3) (by omega), h.ext b4, Chg.of_below b4, ⟨by omega, by omega⟩, fun k hk => ?_⟩
  have hk' := h.lt k hk
  exact ⟨by omega, by omega, by omega, fun e => by have := (hr.lt k e).1; omega⟩
set_option maxHeartbeats 4000000 in
set_option maxRecDepth 100000 in
theorem tcopy_any (w : World) (hl : L.length ≤ 1000) (h : CDag w g L fp0) :
    Calls Try.prog 6 #[ptrV g] w fun e w' => ∃ (g2 : Nat) (fp1 fp2 : Nat → Prop), e = .returned (ptrV g2) ∧ CDag w' g L fp1 ∧ CDag w' g2 L fp2 ∧ Chg fp0 fp1 w w' ∧ (∀ k, fp2 k → w.heap.size ≤ k) ∧ (∀ k, fp2 k → ¬ fp1 k) := by
  have hmf : ∀ (fn : Fn) (first cap : Array Value) (w : World), (Instr.makeFunc fn first cap).run Try.prog w = .ok (.func fn first cap) w := fun _ _ _ _ => rfl
  have HH := hideE h
  obtain ⟨v0, dn, mp, hbx, hrow, hF, hfp⟩ := h
  have b0 := (Below.refl _ w).alloc (Nat.le_refl _) (.cells #[ptrV g] 24)
  have hbx1 := keptN b0 hbx
  have hCl := tclone_any hl _ (keptT hrow b0)
  rw [World.size_alloc] at hCl
  obtain ⟨pv, cv, rfl⟩ := own_slice' hrow
  have c1 : (w.alloc (.cells #[.pointer (some ⟨g, 0, none⟩)] 24)).cell? ⟨g, 1, none⟩ = some (.slice pv L.length cv) := by
    have := (sixT hbx1).1.2.1; exact this
  have HCl : Hid (Calls Try.prog 16 #[.slice pv L.length cv] (w.alloc (.cells #[.pointer (some ⟨g, 0, none⟩)] 24)) fun e w2 => ∃ p' c', e = .returned (.slice p' L.length c') ∧ CpS w g w2.heap.size (w2.heap.size + 1) L fp0 fp0 (.slice p' L.length c') (cpC 0 (.slice p' L.length c') 0 0 none) ((w2.alloc (.cells (cpC 0 (.slice p' L.length c') 0 0 none) 61)).alloc (.cells #[ptrV w2.heap.size] 24)) ∧ w2.heap[w.heap.size]? = some (.cells #[.pointer (some ⟨g, 0, none⟩)] 24 (0, 0))) := by
    refine hCl.mono ?_
    rintro e w2 ⟨v', rfl, h1, h2⟩
    obtain ⟨p', c', rfl⟩ := own_slice' h1
    exact ⟨p', c', rfl, CpS.start HH.out h2 h1, keptE h2 (Nat.lt_succ_self _) (heap_alloc_new w _)⟩
  clear hCl hbx1 b0 hbx hrow hF hfp
  obtain ⟨n, hn⟩ : ∃ n, L.length = n := ⟨_, rfl⟩
  rw [hn] at c1 HCl
  have HNn := hideE hn
  clear hn hl
  simp only [ptrV]
  go_enter Try.func6, Try.ntmps6
  go_upto_region 2 with (go_at_call 16; refine HCl.out.mono ?_; rintro e w2 ⟨p', c', rfl, h2, hx⟩; have x0 := box1T hx; have H2 := hideE h2; clear h2 hx)
  have H3 : Hid (CpS w g w2.heap.size (w2.heap.size + 1) L fp0 fp0 (.slice p' n c') (cpC 0 (.slice p' n c') 0 0 none) ((w2.alloc (.cells #[.int .i64 0, .slice p' n c', .int .u32 0, .int .i32 0, .int .u32 0, .map none] 61)).alloc (.cells #[.pointer (some ⟨w2.heap.size, 0, none⟩)] 24))) := H2
  refine gen_world (CpS w g w2.heap.size (w2.heap.size + 1) L fp0 fp0 (.slice p' n c') (cpC 0 (.slice p' n c') 0 0 none)) H3.out ?_
  clear H2 H3 x0 c1 HCl
  intro w3 h3
  generalize w2.heap.size = gc at h3 ⊢
  obtain ⟨cb, hcb⟩ : ∃ cb, gc + 1 = cb := ⟨_, rfl⟩
  rw [hcb] at h3 ⊢
  clear hcb w2
  have d0 := box1T h3.db
  have d1 := box1T h3.cbx
  simp only [ptrV] at d0 d1
  obtain ⟨⟨x0, x1, x2, x3, x4, x5⟩, y0, y1, y2, y3, y4, y5⟩ := sixT h3.gcx
  have hcn := h3.dag.count
  rw [HNn.out] at hcn
  have HLd := hideE (loadO ⟨g, 0, none⟩ (n : Int) w3.drew hcn)
  have HSt := hideE (storeO ⟨gc, 0, none⟩ (n : Int) _ w3.drew x0 y0)
  have H4 := hideE ((h3.below (Below.refl _ w3).drew).set 0 (.int .i64 (n : Int)) (ds := cpC n (.slice p' n c') 0 0 none) rfl)
  clear x0 x1 x2 x3 x4 x5 y0 y1 y2 y3 y4 y5 hcn h3
  go_cut [] (fun W => CpS w g gc cb L fp0 fp0 (.slice p' n c') (cpC n (.slice p' n c') 0 0 none) W)
  case first =>
    go_region_with (first
      | (go_at_call 15; refine HLd.out.mono ?_; rintro e W ⟨rfl, rfl⟩)
      | (go_at_call 17; refine HSt.out.mono ?_; rintro e W ⟨rfl, rfl⟩))
    all_goals
      go_wp2_with fail
      go_meet
      case rel => exact H4.out
  case rest =>
    clear H4 HLd HSt d0 d1
    have d1 := box1T hcut.cbx
    simp only [ptrV] at d1
    have HD := hideE (copyDo hcut)
    clear hcut
    go_wp2_with (go_at_call 18; refine HD.out.mono ?_; rintro e W ⟨rfl, fp2, b2, k1, k2, k3, k4⟩; have z1 := box1T k1.cbx; simp only [ptrV] at z1; have K1 := hideE k1; have K2 := hideE k2; have K3 := hideE k3; have K4 := hideE k4; clear k1 k2 k3 k4)
    go_ret
    have k1 := K1.out
    have hrow := row_baseT (B' := 0) k1.row (Nat.zero_le _)
    refine ⟨gc, fp2, fun k => k = gc ∨ (Value.slice p' n c').ownBlock = some k ∨ some b2 = some k, rfl, k1.dag, ⟨.slice p' n c', 1, some b2, ?_, hrow, .inr ⟨rfl, b2, rfl, K2.out⟩, fun k => Iff.rfl⟩, k1.chg, fun k hk => ?_, fun k hk hf => ?_⟩
    · rw [HNn.out]; exact k1.gcx
    · rcases hk with e | e | e
      · have := k1.new; omega
      · exact (k1.row.lt k e).1
      · injection e with e; have := K3.out; omega
    · rcases hk with e | e | e
      · exact (k1.free k hf).2.1 e
      · exact (k1.free k hf).2.2.2 e
      · injection e with e; exact K4.out (e ▸ hf)
end Go.Proofs.Ythlefedljgmmfab
