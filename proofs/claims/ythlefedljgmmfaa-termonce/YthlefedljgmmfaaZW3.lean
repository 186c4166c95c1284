/-
  Contract of the document's layer 10: Vars.
  Contracts of the document's layer 10: values, Eval.
-/
import Derived.Deep.RegionHeld3
import Derived.Test.YthlefedljgmmfaaZW2
namespace Go.Proofs.Ythlefedljgmmfaa
open Go.RowKit Go.Lib Tm
set_option linter.unusedSimpArgs false
set_option linter.unusedVariables false

variable {g : Nat} {L : List Trm} {fp : Nat → Prop}
def wdV (x : BitVec 32) : Value := .int .u32 (x.toNat : Int)
def wdsC (l : List (BitVec 32)) : List Value := l.map wdV
theorem infoTw : (Try.prog.info? 31).map (fun i => (i.zero, i.size, i.bytes)) = some (some (.int .u32 0), 1, 4) := by kernel_rfl
theorem wds_snoc {l : List (BitVec 32)} {k : Nat} {x : BitVec 32} (h : l[k]? = some x) : wdsC (l.take (k + 1)) = wdsC (l.take k) ++ [.int .u32 (x.toNat : Int)] := by
  unfold wdsC
  rw [List.take_add_one, h, Option.toList_some, List.map_append]; rfl
theorem wds_get {l : List (BitVec 32)} {k a : Nat} {x : BitVec 32} (h : l[a]? = some x) (ha : a < k) : (wdsC (l.take k))[a]? = some (.int .u32 (x.toNat : Int)) := by
  unfold wdsC
  rw [List.getElem?_map, List.getElem?_take_of_lt ha, h]; rfl
theorem need_get {L : List Trm} {n : Nat} (h : n < L.length) : (needsL L)[n]? = some (needN L n) := by
  unfold needN
  rw [List.getD_eq_getElem?_getD, List.getElem?_eq_getElem (by rw [needs_len]; exact h)]; rfl
theorem val_get (x : Nat → BitVec 32) {L : List Trm} {n : Nat} (h : n < L.length) : (valsL x L)[n]? = some (valN x L n) := by
  unfold valN
  rw [List.getD_eq_getElem?_getD, List.getElem?_eq_getElem (by rw [vals_len]; exact h)]; rfl
/-- A row of words under way: as many as the rounds, in the call's own memory. -/
structure Vw (w : World) (l : List (BitVec 32)) (k : Nat) (v : Value) (W : World) : Prop where
  row : W.ownsRow w.heap.size 31 1 v k (wdsC (l.take k))
  low : Below w.heap.size w W
theorem Vw.below {w W W' : World} {l : List (BitVec 32)} {k : Nat} {p : Option Addr} {n c : Nat} (h : Vw w l k (.slice p n c) W) (hb : Below W.heap.size W W') : Vw w l k (.slice p n c) W' :=
  ⟨h.row.kept (grown_belowT hb) (by cases (Value.slice p n c).ownBlock <;> simp), h.low.trans (hb.mono h.low.size)⟩
theorem Vw.at {w W : World} {l : List (BitVec 32)} {k : Nat} {p : Option Addr} {c : Nat} (h : Vw w l k (.slice p k c) W) {a : Nat} {x : BitVec 32} (ha : a < k) (hx : l[a]? = some x) : ∃ gg, p = some ⟨gg, 0, none⟩ ∧ W.cell? ⟨gg, a, none⟩ = some (.int .u32 (x.toNat : Int)) := by
  obtain ⟨gg, rfl⟩ := own_some h.row (by omega)
  exact ⟨gg, rfl, (h.row.cellAt a (by omega)).trans (wds_get hx ha)⟩
theorem Vw.push {w W W' : World} {l : List (BitVec 32)} {k : Nat} {v v' : Value} {x : BitVec 32} (h : Vw w l k v W) (hx : l[k]? = some x) (hown : W'.ownsRow w.heap.size 31 1 v' (k + 1) (wdsC (l.take k) ++ [.int .u32 (x.toNat : Int)])) {o : Obj} (hg : (W.alloc o).grownBy W' v.ownBlock) : Vw w l (k + 1) v' W' :=
  ⟨by rw [wds_snoc hx]; exact hown, h.low.trans ((((Below.refl _ W).alloc h.low.size o).grown hg (by simp; have := h.low.size; omega) (fun j e => (h.row.lt j e).1)))⟩
theorem nodeE_no {L : List Trm} {n : Int} (h : n < 0 ∨ (L.length : Int) ≤ n) : nodeE L n = 100 ∧ varsN L n = (BitVec.ofNat 32 0) ∧ ∀ x, evalN x L n = (BitVec.ofNat 32 0) := by
  have e : hasN L n = false := by unfold hasN; exact decide_eq_false (by omega)
  unfold nodeE varsN evalN
  rw [e]
  exact ⟨rfl, rfl, fun _ => rfl⟩
theorem nodeE_yes {L : List Trm} {d : Nat} (h : d < L.length) : nodeE L (d : Int) = 0 ∧ varsN L (d : Int) = needN L d ∧ ∀ x, evalN x L (d : Int) = valN x L d := by
  have e : hasN L (d : Int) = true := by unfold hasN; exact decide_eq_true (by omega)
  unfold nodeE varsN evalN
  rw [e]
  exact ⟨rfl, rfl, fun _ => rfl⟩
theorem tbox (W : World) (a0 a1 a2 a3 a4 : Value) : (W.alloc (.cells #[a0, a1, a2, a3, a4] 33)).heap[W.heap.size]? = some (.cells #[a0, a1, a2, a3, a4] 33 (0, 0)) := heap_alloc_new W _
theorem two_shl : ∀ (r : Nat), r < 32 → (2 : Int) ^ r % 4294967296 = (((BitVec.ofNat 32 1) <<< r).toNat : Int) := by
  decide +kernel
theorem cell_one8T (w : World) (x : Value) (t : TypeId) : ∀ j u, [x][j]? = some u → (w.alloc (.cells #[x] t)).cell? ((⟨w.heap.size, 0, none⟩ : Addr).add j) = some u := by
  intro j u hj
  match j, hj with
  | 0, hj => simp at hj; subst hj; simp [Addr.add]
set_option maxHeartbeats 8000000 in
set_option maxRecDepth 100000 in
theorem rvars_any (n : Int) (hn : -9223372036854775808 ≤ n ∧ n ≤ 9223372036854775807) (w : World) (hok : OkT L) (hl : L.length ≤ 1000) (h : RDag w g L fp) :
    Calls Try.prog 16 #[ptrV g, .int .i64 n] w fun e w' => e = .returned (.tuple #[.int .u32 ((varsN L n).toNat : Int), .int .i64 (nodeE L n : Int)]) ∧ Below w.heap.size w w' := by
  obtain ⟨i0, hii, hz0, hz1, hz2⟩ := info_parts infoTw
  have HH := hideE h
  obtain ⟨v, hbx, hrow, hfp⟩ := h
  obtain ⟨pv, cv, rfl⟩ := own_slice' hrow
  have c0 : w.cell? ⟨g, 0, none⟩ = some (.slice pv L.length cv) := by simp [World.cell?, hbx]
  have HBx := hideE hbx
  have HRow := hideE hrow
  have HOk := hideE hok
  have lg := (Array.getElem?_eq_some_iff.1 hbx).1
  clear hbx hrow hfp hok
  obtain ⟨N, hN⟩ : ∃ N, L.length = N := ⟨_, rfl⟩
  have HNo := hideE (nodeE_no (L := L) (n := n))
  rw [hN] at c0 hl HNo HBx HRow
  have HN := hideE hN
  clear hN
  simp only [ptrV]
  by_cases ha0 : n < 0
  · have HX := hideE (HNo.out (.inl ha0))
    go_enter Try.func16, Try.ntmps16
    go_wp2_with fail
    go_ret2
    exact ⟨by rw [HX.out.1, HX.out.2.1]; rfl, Below.refl _ _⟩
  · have ha0' : 0 ≤ n := by omega
    by_cases ha1 : (N : Int) ≤ n
    · have HX := hideE (HNo.out (.inr ha1))
      go_enter Try.func16, Try.ntmps16
      go_wp2_with fail
      go_ret2
      exact ⟨by rw [HX.out.1, HX.out.2.1]; rfl, Below.refl _ _⟩
    · have ha1' : n < (N : Int) := by omega
      obtain ⟨d, rfl⟩ := Int.eq_ofNat_of_zero_le ha0'
      have hd : d < N := by omega
      have HX := hideE (nodeE_yes (L := L) (d := d) (by rw [HN.out]; exact hd))
      go_enter Try.func16, Try.ntmps16
      go_upto_region 5 with fail
      refine gen_world (fun W => Vw w (needsL L) 0 (.slice (some ⟨w.heap.size, 0, none⟩) 0 0) W) ⟨World.ownsRow_made w #[] 0 (Nat.le_refl _) (Nat.zero_le _) (by simp), (Below.refl _ w).alloc (Nat.le_refl _) _⟩ ?_
      intro w1 hv1
      go_loopg [6, 7] (d + 1) (fun q vm j W => ∃ k : Nat, k + q = d + 1 ∧ j = .int .i64 (k : Int) ∧ Vw w (needsL L) k vm W)
      case atStart => exact ⟨0, by omega, rfl, hv1⟩
      case round =>
        clear hv1
        obtain ⟨k, hkq, rfl, hv⟩ := hrel
        obtain ⟨pm, cm, rfl⟩ := own_slice' hv.row
        cases gk with
        | zero =>
          obtain rfl : k = d + 1 := by omega
          have hk : ¬ (((d + 1 : Nat) : Int) ≤ (d : Int)) := by omega
          obtain ⟨gg, rfl, e0⟩ := hv.at (Nat.lt_succ_self d) (need_get (by rw [HN.out]; exact hd))
          have HV := hideE hv
          clear hv
          go_wp2_with fail
          go_ret2
          exact ⟨by rw [HX.out.1, HX.out.2.1]; rfl, HV.out.low⟩
        | succ q =>
          have hk : ((k : Int) ≤ (d : Int)) := by omega
          have hk0 : (0 : Int) ≤ (k : Int) := by omega
          have hkn : (k : Int) < (N : Int) := by omega
          have hwk : IntKind.i64.wrap ((k : Int) + 1) = (k : Int) + 1 := wrE (by omega) (by omega)
          obtain ⟨t, ht⟩ : ∃ t, L[k]? = some t := ⟨L[k]'(by rw [HN.out]; omega), List.getElem?_eq_getElem (by rw [HN.out]; omega)⟩
          have hnk := need_get (L := L) (n := k) (by rw [HN.out]; omega)
          have hbx := (hv.low.block g lg).trans HBx.out
          have c0 : wr.cell? ⟨g, 0, none⟩ = some (.slice pv N cv) := by simp [World.cell?, hbx]
          have hrow := HRow.out.kept (below_grownT hv.low (Nat.le_refl _)) (by cases (Value.slice pv N cv).ownBlock <;> simp)
          obtain ⟨gs, rfl⟩ := own_some hrow (by omega)
          have e := fun j (hj : j < 5) => (hrow.cellAt (k * 5 + j) (by omega)).trans (trmsC_get L ht hj)
          have e0 := e 0 (by decide)
          have e1 := e 1 (by decide)
          have e2 := e 2 (by decide)
          have e3 := e 3 (by decide)
          have e4 := e 4 (by decide)
          obtain ⟨sk, sv, sp, sa, sb⟩ := t
          simp only [Nat.add_zero, trmC, List.getElem?_cons_zero, List.getElem?_cons_succ] at e0 e1 e2 e3 e4
          have hfine := HOk.out.fine k _ ht
          have HT := hideE ht
          have HV := hideE hv
          have HNk := hideE hnk
          have HFine := hideE hfine
          clear hrow e hbx ht hv hnk hfine
          go_upto_region 8 with fail
          refine gen_world (fun W => W.heap[wr.heap.size]? = some (.cells #[.int .i64 sk, .int .u32 (sv.toNat : Int), .int .i64 sp, .int .i64 sa, .int .i64 sb] 33 (0, 0)) ∧ Vw w (needsL L) k (.slice pm k cm) W) ⟨tbox _ _ _ _ _ _, HV.out.below ((Below.refl _ wr).alloc (Nat.le_refl _) _)⟩ ?_
          clear HV c0 e0 e1 e2 e3 e4
          rintro w2 ⟨htb, hv⟩
          obtain ⟨t0, t1, t2, t3, t4⟩ := fiveT htb
          have hrv := hv.row
          have hlw := hv.low.size
          have HV := hideE hv
          clear hv htb
          rcases HFine.out with ⟨v, e⟩ | ⟨r, h0, hr, e⟩ | ⟨op, a, b, h1, h2, ha, hb, e⟩
          · have hz : ((needN L k).toNat : Int) = 0 := by rw [need_const (e ▸ HT.out)]; rfl
            injection e with q1 q2 q3 q4 q5
            subst q1 q2 q3 q4 q5
            go_wp2_with (at_builtin; refine wpList_append_own _ rfl _ _ 78 rfl w.heap.size 31 i0 (.int .u32 0) 1 4 Try.underlying78 hii hz0 hz1 hz2 rfl (by decide) _ _ _ rfl (hrv.alloc _) ⟨_, 0, none⟩ 1 1 [.int .u32 0] rfl rfl (cell_one8T _ _ _) (by simp [Value.oneCell']) (by unfold maxLen; omega) (by omega) (by simp; omega) ?_; intro v2 w3 hown2 hgrow _)
            go_roundg q
            case measure => omega
            case rel => exact ⟨k + 1, by omega, by simp, HV.out.push HNk.out (by rw [hz]; exact hown2) hgrow⟩
          · have hz : (2 : Int) ^ r % 4294967296 = ((needN L k).toNat : Int) := by rw [need_reg h0 hr (e ▸ HT.out)]; exact two_shl r hr
            have HZ := hideE hz
            clear hz
            rw [reg_nat h0 hr] at e
            injection e with q1 q2 q3 q4 q5
            have hm : ((BitVec.ofNat 32 r).toNat : Int) = (r : Int) := by rw [BitVec.toNat_ofNat, Nat.mod_eq_of_lt (by omega)]
            rw [q2, hm] at t1
            subst q1 q2 q3 q4 q5
            go_wp2_with (at_builtin; refine wpList_append_own _ rfl _ _ 78 rfl w.heap.size 31 i0 (.int .u32 0) 1 4 Try.underlying78 hii hz0 hz1 hz2 rfl (by decide) _ _ _ rfl (hrv.alloc _) ⟨_, 0, none⟩ 1 1 [.int .u32 ((2 : Int) ^ r % 4294967296)] rfl rfl (cell_one8T _ _ _) (by simp [Value.oneCell']) (by unfold maxLen; omega) (by omega) (by simp; omega) ?_; intro v2 w3 hown2 hgrow _)
            go_roundg q
            case measure => omega
            case rel => exact ⟨k + 1, by omega, by simp, HV.out.push HNk.out (by rw [← HZ.out]; exact hown2) hgrow⟩
          · have hz : bits .or .u32 ((needN L a).toNat : Int) ((needN L b).toNat : Int) = ((needN L k).toNat : Int) := by rw [need_op (e ▸ HT.out) ha hb]; exact Wd.or_ _ _
            have HZ := hideE hz
            clear hz
            obtain ⟨gm, rfl, ma⟩ := HV.out.at ha (need_get (by rw [HN.out]; omega))
            obtain ⟨_, hgm, mb⟩ := HV.out.at hb (need_get (by rw [HN.out]; omega))
            injection hgm with hgm
            injection hgm with hgm
            subst hgm
            injection e with q1 q2 q3 q4 q5
            subst q1 q2 q3 q4 q5
            have hak : (a : Int) < (k : Int) := by omega
            have hbk : (b : Int) < (k : Int) := by omega
            have ha0 : (0 : Int) ≤ (a : Int) := by omega
            have hb0 : (0 : Int) ≤ (b : Int) := by omega
            go_wp2_with fail
            go_quiet (fail)
            go_wp2_with (at_builtin; refine wpList_append_own _ rfl _ _ 78 rfl w.heap.size 31 i0 (.int .u32 0) 1 4 Try.underlying78 hii hz0 hz1 hz2 rfl (by decide) _ _ _ rfl (hrv.alloc _) ⟨_, 0, none⟩ 1 1 [.int .u32 (bits .or .u32 ((needN L a).toNat : Int) ((needN L b).toNat : Int))] rfl rfl (cell_one8T _ _ _) (by simp [Value.oneCell']) (by unfold maxLen; omega) (by omega) (by simp; omega) ?_; intro v2 w3 hown2 hgrow _)
            go_roundg q
            case measure => omega
            case rel => exact ⟨k + 1, by omega, by simp, (HV.out.below (drew_low w2 nq w2.heap.size)).push HNk.out (by rw [← HZ.out]; exact hown2) hgrow⟩
end Go.Proofs.Ythlefedljgmmfaa
namespace Go.Proofs.Ythlefedljgmmfaa
open Go.RowKit Go.Lib Tm
set_option linter.unusedSimpArgs false
set_option linter.unusedVariables false

variable {g : Nat} {L : List Trm} {fp : Nat → Prop}
theorem Vw.box {w W W' : World} {l : List (BitVec 32)} {k : Nat} {v : Value} (h : Vw w l k v W) {b : Nat} {cs : Array Value} {t : TypeId} {fr : Nat × Nat} (hb : W.heap[b]? = some (.cells cs t fr)) (hne : t ≠ 31) {o : Obj} (hg : (W.alloc o).grownBy W' v.ownBlock) : W'.heap[b]? = some (.cells cs t fr) :=
  (hg.block b (by rw [World.size_alloc]; have := (Array.getElem?_eq_some_iff.1 hb).1; omega) (row_boxT h.row hb hne)).trans (keptN ((Below.refl _ W).alloc (Nat.le_refl _) o) hb)
/-- What is read of a reckoning's parts while the order is drawn. -/
def HeldT (w : World) (B gm : Nat) (op : Int) (a b : Nat) (x y : Int) (W : World) : Prop :=
  W.cell? ⟨B, 2, none⟩ = some (.int .i64 op) ∧ W.cell? ⟨B, 3, none⟩ = some (.int .i64 (a : Int)) ∧ W.cell? ⟨B, 4, none⟩ = some (.int .i64 (b : Int)) ∧ W.cell? ⟨gm, a, none⟩ = some (.int .u32 x) ∧ W.cell? ⟨gm, b, none⟩ = some (.int .u32 y) ∧ Below w.heap.size w W
theorem cell_lt {W : World} {b j : Nat} {v : Value} (h : W.cell? ⟨b, j, none⟩ = some v) : b < W.heap.size := by
  cases e : W.heap[b]? with
  | none => simp [World.cell?, e] at h
  | some o => exact (Array.getElem?_eq_some_iff.1 e).1
theorem HeldT.below {w : World} {B gm : Nat} {op : Int} {a b : Nat} {x y : Int} {W W' : World} (h : HeldT w B gm op a b x y W) (hb : Below W.heap.size W W') : HeldT w B gm op a b x y W' := by
  obtain ⟨h1, h2, h3, h4, h5, h6⟩ := h
  exact ⟨(hb.cell (cell_lt h1)).trans h1, (hb.cell (cell_lt h2)).trans h2, (hb.cell (cell_lt h3)).trans h3, (hb.cell (cell_lt h4)).trans h4, (hb.cell (cell_lt h5)).trans h5, h6.trans (hb.mono h6.size)⟩
theorem HeldT.drew {w : World} {B gm : Nat} {op : Int} {a b : Nat} {x y : Int} {W : World} (h : HeldT w B gm op a b x y W) : HeldT w B gm op a b x y W.drew := h.below (Below.refl _ W).drew
set_option maxHeartbeats 8000000 in
set_option maxRecDepth 100000 in
theorem rvalues_any (x : Nat → BitVec 32) (d : Nat) (w : World) (hok : OkT L) (hl : L.length ≤ 1000) (hd : d < L.length) (h : RDag w g L fp) :
    Calls Try.prog 31 #[.pointer (some ⟨g, 0, none⟩), .int .i64 (d : Int), .agg (regsC x)] w fun e w' => ∃ p c, e = .returned (.slice p (d + 1) c) ∧ Vw w (valsL x L) (d + 1) (.slice p (d + 1) c) w' := by
  obtain ⟨i0, hii, hz0, hz1, hz2⟩ := info_parts infoTw
  have HH := hideE h
  obtain ⟨v, hbx, hrow, hfp⟩ := h
  obtain ⟨pv, cv, rfl⟩ := own_slice' hrow
  have HBx := hideE hbx
  have HRow := hideE hrow
  have HOk := hideE hok
  have lg := (Array.getElem?_eq_some_iff.1 hbx).1
  clear hbx hrow hfp hok
  obtain ⟨N, hN⟩ : ∃ N, L.length = N := ⟨_, rfl⟩
  rw [hN] at hl HBx HRow hd
  have HN := hideE hN
  clear hN
  obtain ⟨X, hX⟩ : ∃ X, regsC x = X := ⟨_, rfl⟩
  have hXs : X.size = 32 := by rw [← hX]; exact regs_size x
  have HX := hideE (fun r (hr : r < 32) => hX ▸ regs_get x hr)
  rw [hX]
  clear hX
  go_enter Try.func31, Try.ntmps31
  go_upto_region 3 with fail
  refine gen_world (fun W => W.heap[w.heap.size]? = some (.cells X 39 (0, 0)) ∧ Vw w (valsL x L) 0 (.slice (some ⟨w.heap.size + 1, 0, none⟩) 0 0) W) ⟨?_, ?_, ?_⟩ ?_
  · have h1 := heap_alloc_new w (.cells X 39)
    exact keptN ((Below.refl _ (w.alloc (.cells X 39))).alloc (Nat.le_refl _) _) h1
  · have h1 := World.ownsRow_made (base := w.heap.size) (e := 31) (size := 1) (w.alloc (.cells X 39)) #[] 0 (by rw [World.size_alloc]; omega) (Nat.zero_le _) (by simp)
    rw [World.size_alloc] at h1
    exact h1
  · exact ((Below.refl _ w).alloc (Nat.le_refl _) _).alloc (by rw [World.size_alloc]; omega) _
  rintro w1 ⟨hxb, hv1⟩
  go_loopg [7, 8] (d + 1) (fun q vm j W => ∃ k : Nat, k + q = d + 1 ∧ j = .int .i64 (k : Int) ∧ W.heap[w.heap.size]? = some (.cells X 39 (0, 0)) ∧ Vw w (valsL x L) k vm W)
  case atStart => exact ⟨0, by omega, rfl, hxb, hv1⟩
  case round =>
    clear hv1 hxb
    obtain ⟨k, hkq, rfl, hxb, hv⟩ := hrel
    obtain ⟨pm, cm, rfl⟩ := own_slice' hv.row
    cases gk with
    | zero =>
      obtain rfl : k = d + 1 := by omega
      have hk : ¬ (((d + 1 : Nat) : Int) ≤ (d : Int)) := by omega
      have HV := hideE hv
      clear hv hxb
      go_wp2_with fail
      go_ret
      exact ⟨pm, cm, rfl, HV.out⟩
    | succ q =>
      have hk : ((k : Int) ≤ (d : Int)) := by omega
      have hk0 : (0 : Int) ≤ (k : Int) := by omega
      have hkn : (k : Int) < (N : Int) := by omega
      have hwk : IntKind.i64.wrap ((k : Int) + 1) = (k : Int) + 1 := wrE (by omega) (by omega)
      obtain ⟨t, ht⟩ : ∃ t, L[k]? = some t := ⟨L[k]'(by rw [HN.out]; omega), List.getElem?_eq_getElem (by rw [HN.out]; omega)⟩
      have hnk := val_get x (L := L) (n := k) (by rw [HN.out]; omega)
      have hbx := (hv.low.block g lg).trans HBx.out
      have c0 : wr.cell? ⟨g, 0, none⟩ = some (.slice pv N cv) := by simp [World.cell?, hbx]
      have hrow := HRow.out.kept (below_grownT hv.low (Nat.le_refl _)) (by cases (Value.slice pv N cv).ownBlock <;> simp)
      obtain ⟨gs, rfl⟩ := own_some hrow (by omega)
      have e := fun j (hj : j < 5) => (hrow.cellAt (k * 5 + j) (by omega)).trans (trmsC_get L ht hj)
      have e0 := e 0 (by decide)
      have e1 := e 1 (by decide)
      have e2 := e 2 (by decide)
      have e3 := e 3 (by decide)
      have e4 := e 4 (by decide)
      obtain ⟨sk, sv, sp, sa, sb⟩ := t
      simp only [Nat.add_zero, trmC, List.getElem?_cons_zero, List.getElem?_cons_succ] at e0 e1 e2 e3 e4
      have hfine := HOk.out.fine k _ ht
      have HT := hideE ht
      have HV := hideE hv
      have HNk := hideE hnk
      have HFine := hideE hfine
      have HXb := hideE hxb
      clear hrow e hbx ht hv hnk hfine hxb
      go_upto_region 6 with fail
      refine gen_world (fun W => W.heap[wr.heap.size]? = some (.cells #[.int .i64 sk, .int .u32 (sv.toNat : Int), .int .i64 sp, .int .i64 sa, .int .i64 sb] 33 (0, 0)) ∧ W.heap[w.heap.size]? = some (.cells X 39 (0, 0)) ∧ Vw w (valsL x L) k (.slice pm k cm) W) ⟨tbox _ _ _ _ _ _, keptN ((Below.refl _ wr).alloc (Nat.le_refl _) _) HXb.out, HV.out.below ((Below.refl _ wr).alloc (Nat.le_refl _) _)⟩ ?_
      clear HV c0 e0 e1 e2 e3 e4 HXb
      rintro w2 ⟨htb, hxb, hv⟩
      obtain ⟨t0, t1, t2, t3, t4⟩ := fiveT htb
      have hrv := hv.row
      have hlw := hv.low.size
      have HV := hideE hv
      have HXb := hideE hxb
      clear hv htb
      rcases HFine.out with ⟨v, e⟩ | ⟨r, h0, hr, e⟩ | ⟨op, a, b, h1, h2, ha, hb, e⟩
      · have hz : valN x L k = v := val_const x (e ▸ HT.out)
        injection e with q1 q2 q3 q4 q5
        subst q1 q2 q3 q4 q5
        have HZ := hideE hz
        clear hz hxb
        go_wp2_with (at_builtin; refine wpList_append_own _ rfl _ _ 78 rfl w.heap.size 31 i0 (.int .u32 0) 1 4 Try.underlying78 hii hz0 hz1 hz2 rfl (by decide) _ _ _ rfl (hrv.alloc _) ⟨_, 0, none⟩ 1 1 [.int .u32 (sv.toNat : Int)] rfl rfl (cell_one8T _ _ _) (by simp [Value.oneCell']) (by unfold maxLen; omega) (by omega) (by simp; omega) ?_; intro v2 w3 hown2 hgrow _)
        go_roundg q
        case measure => omega
        case rel => exact ⟨k + 1, by omega, by simp, HV.out.box HXb.out (by decide) hgrow, HV.out.push HNk.out (by rw [HZ.out]; exact hown2) hgrow⟩
      · have hz : valN x L k = x r := val_reg x h0 hr (e ▸ HT.out)
        rw [reg_nat h0 hr] at e
        injection e with q1 q2 q3 q4 q5
        have hm : ((BitVec.ofNat 32 r).toNat : Int) = (r : Int) := by rw [BitVec.toNat_ofNat, Nat.mod_eq_of_lt (by omega)]
        rw [q2, hm] at t1
        subst q1 q2 q3 q4 q5
        have HZ := hideE hz
        have hc := HX.out r hr
        have cx : w2.cell? ⟨w.heap.size, r, none⟩ = some (.int .u32 ((x r).toNat : Int)) := by simp [World.cell?, hxb, hc]
        have hri : (r : Int) < 32 := by omega
        have hr0 : (0 : Int) ≤ (r : Int) := by omega
        clear hz hxb hc
        go_wp2_with (at_builtin; refine wpList_append_own _ rfl _ _ 78 rfl w.heap.size 31 i0 (.int .u32 0) 1 4 Try.underlying78 hii hz0 hz1 hz2 rfl (by decide) _ _ _ rfl (hrv.alloc _) ⟨_, 0, none⟩ 1 1 [.int .u32 ((x r).toNat : Int)] rfl rfl (cell_one8T _ _ _) (by simp [Value.oneCell']) (by unfold maxLen; omega) (by omega) (by simp; omega) ?_; intro v2 w3 hown2 hgrow _)
        go_roundg q
        case measure => omega
        case rel => exact ⟨k + 1, by omega, by simp, HV.out.box HXb.out (by decide) hgrow, HV.out.push HNk.out (by rw [HZ.out]; exact hown2) hgrow⟩
      · have hz : valN x L k = Wd.run op (valN x L a) (valN x L b) := val_op x (e ▸ HT.out) ha hb
        obtain ⟨gm, rfl, ma⟩ := HV.out.at ha (val_get x (by rw [HN.out]; omega))
        obtain ⟨_, hgm, mb⟩ := HV.out.at hb (val_get x (by rw [HN.out]; omega))
        injection hgm with hgm
        injection hgm with hgm
        subst hgm
        injection e with q1 q2 q3 q4 q5
        subst q1 q2 q3 q4 q5
        have hak : (a : Int) < (k : Int) := by omega
        have hbk : (b : Int) < (k : Int) := by omega
        have ha0 : (0 : Int) ≤ (a : Int) := by omega
        have hb0 : (0 : Int) ≤ (b : Int) := by omega
        have he : Wd.err sp = 0 := by unfold Wd.err Wd.known; rw [decide_eq_true ⟨h1, h2⟩]; rfl
        have hdo := fun W => rdo_any sp (valN x L a) (valN x L b) W
        rw [← hz, he] at hdo
        have HDo := hideE hdo
        have HH2 : Hid (HeldT w2 wr.heap.size gm sp a b ((valN x L a).toNat : Int) ((valN x L b).toNat : Int) w2) := ⟨t2, t3, t4, ma, mb, Below.refl _ _⟩
        clear hz hxb he hdo hrv
        go_wp2_with fail
        go_region_held3 (fun w' => w'.cell? ⟨wr.heap.size, 2, none⟩ = some (.int .i64 sp) ∧ w'.cell? ⟨wr.heap.size, 3, none⟩ = some (.int .i64 (a : Int)) ∧ w'.cell? ⟨wr.heap.size, 4, none⟩ = some (.int .i64 (b : Int)) ∧ w'.cell? ⟨gm, a, none⟩ = some (.int .u32 ((valN x L a).toNat : Int)) ∧ w'.cell? ⟨gm, b, none⟩ = some (.int .u32 ((valN x L b).toNat : Int)) ∧ Below w2.heap.size w2 w')
          ((show HeldT w2 wr.heap.size gm sp a b ((valN x L a).toNat : Int) ((valN x L b).toNat : Int) _; with_reducible (repeat (first | assumption | exact HH2.out | refine HeldT.drew ?_))))
          (first
            | (go_at_call 21; refine (HDo.out _).mono ?_; rintro e w5 ⟨rfl, hb5⟩; have hS : HeldT w2 wr.heap.size gm sp a b ((valN x L a).toNat : Int) ((valN x L b).toNat : Int) w5 := HeldT.below (by assumption) hb5))
        have hb6 := hS.2.2.2.2.2
        have hv5 := HV.out.below hb6
        have hrv := hv5.row
        have hlw5 := hv5.low.size
        have HV5 := hideE hv5
        have HXb5 := hideE (keptN hb6 HXb.out)
        clear hv5 hb6 hS
        go_wp2_with (at_builtin; refine wpList_append_own _ rfl _ _ 78 rfl w.heap.size 31 i0 (.int .u32 0) 1 4 Try.underlying78 hii hz0 hz1 hz2 rfl (by decide) _ _ _ rfl (hrv.alloc _) ⟨_, 0, none⟩ 1 1 [.int .u32 ((valN x L k).toNat : Int)] rfl rfl (cell_one8T _ _ _) (by simp [Value.oneCell']) (by unfold maxLen; omega) (by omega) (by simp; omega) ?_; intro v2 w3 hown2 hgrow _)
        go_roundg q
        case measure => omega
        case rel => exact ⟨k + 1, by omega, by simp, HV5.out.box HXb5.out (by decide) hgrow, HV5.out.push HNk.out hown2 hgrow⟩
set_option maxHeartbeats 4000000 in
set_option maxRecDepth 100000 in
theorem reval_any (n : Int) (x : Nat → BitVec 32) (hn : -9223372036854775808 ≤ n ∧ n ≤ 9223372036854775807) (w : World) (hok : OkT L) (hl : L.length ≤ 1000) (h : RDag w g L fp) :
    Calls Try.prog 14 #[ptrV g, .int .i64 n, .agg (regsC x)] w fun e w' => e = .returned (.tuple #[.int .u32 ((evalN x L n).toNat : Int), .int .i64 (nodeE L n : Int)]) ∧ Below w.heap.size w w' := by
  have HH := hideE h
  obtain ⟨v, hbx, hrow, hfp⟩ := h
  obtain ⟨pv, cv, rfl⟩ := own_slice' hrow
  have c0 : w.cell? ⟨g, 0, none⟩ = some (.slice pv L.length cv) := by simp [World.cell?, hbx]
  have HBx := hideE hbx
  clear hbx hrow hfp
  obtain ⟨N, hN⟩ : ∃ N, L.length = N := ⟨_, rfl⟩
  have HNo := hideE (nodeE_no (L := L) (n := n))
  have HVs := hideE (fun d hd W hW => rvalues_any (fp := fp) (g := g) x d W hok hl hd hW)
  rw [hN] at c0 hl HNo HBx HVs
  have HN := hideE hN
  clear hN hok
  obtain ⟨X, hX⟩ : ∃ X, regsC x = X := ⟨_, rfl⟩
  have hXs : X.size = 32 := by rw [← hX]; exact regs_size x
  rw [hX] at HVs
  rw [hX]
  clear hX
  have hb0 := (Below.refl _ w).alloc (Nat.le_refl _) (.cells X 39)
  have HB0 := hideE hb0
  have hc0 := keptN hb0 HBx.out
  have c1 : (w.alloc (.cells X 39)).cell? ⟨g, 0, none⟩ = some (.slice pv N cv) := by simp [World.cell?, hc0]
  clear hb0 hc0
  simp only [ptrV]
  by_cases ha0 : n < 0
  · have HXn := hideE (HNo.out (.inl ha0))
    go_enter Try.func14, Try.ntmps14
    go_wp2_with fail
    go_ret2
    exact ⟨by rw [HXn.out.1, HXn.out.2.2]; rfl, HB0.out⟩
  · have ha0' : 0 ≤ n := by omega
    by_cases ha1 : (N : Int) ≤ n
    · have HXn := hideE (HNo.out (.inr ha1))
      go_enter Try.func14, Try.ntmps14
      go_wp2_with fail
      go_ret2
      exact ⟨by rw [HXn.out.1, HXn.out.2.2]; rfl, HB0.out⟩
    · have ha1' : n < (N : Int) := by omega
      obtain ⟨d, rfl⟩ := Int.eq_ofNat_of_zero_le ha0'
      have hd : d < N := by omega
      have HXn := hideE (nodeE_yes (L := L) (d := d) (by rw [HN.out]; exact hd))
      have HW := hideE (HVs.out d hd (w.alloc (.cells X 39)) (HH.out.ext HB0.out))
      go_enter Try.func14, Try.ntmps14
      have hxb := heap_alloc_new w (.cells X 39)
      have HVd := hideE (val_get x (L := L) (n := d) (by rw [HN.out]; exact hd))
      go_wp2_with (first
        | (refine wpList_load_row rfl 39 _ rfl w.heap.size rfl _ _ _ _ hxb Try.underlying39 rfl (by rw [hXs]; kernel_rfl) ?_)
        | (go_at_call 31; refine HW.out.mono ?_; rintro e w5 ⟨p, c, rfl, hv⟩; obtain ⟨gm, rfl, m0⟩ := hv.at (Nat.lt_succ_self d) HVd.out))
      go_ret2
      exact ⟨by rw [HXn.out.1, HXn.out.2.2]; rfl, HB0.out.trans (hv.low.mono HB0.out.size)⟩
end Go.Proofs.Ythlefedljgmmfaa
