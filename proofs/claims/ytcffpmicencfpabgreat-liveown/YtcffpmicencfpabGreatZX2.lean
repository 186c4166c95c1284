/-
  Contract of package live: Back (a range over slices.Backward).
  Contracts of package live: leaves, listed, found (and slices.Equal at blocks).
-/
import Derived.RangeFuncNested
import Derived.RangeFuncBound
import Derived.RangeFuncCalls
import Derived.RangeFuncLeaves
import Derived.RangeFuncBox
import Derived.Shelf.Abstract
import Derived.Shelf.RegionOpen
import Derived.WalkKit
import Derived.OwnWalkIn
import Derived.TacticsInMore
import Derived.LoopNIn
import Derived.LoopIn
import Derived.Deep.MidRow
import Derived.Test.YtcffpmicencfpabGreatZX1
import Derived.Test.YtcffpmicencfpabGreatZY9
namespace Go.Proofs.YtcffpmicencfpabGreat
open Go.RowKit Go.Shelf Go.Lib Ip Bl Lv
set_option linter.unusedSimpArgs false
set_option linter.unusedVariables false

attribute [local go_sem] Oper.semAt_some

def Kg (g : Nat) (W W' : World) : Prop := W'.heap[g]? = W.heap[g]?
theorem Kg.refl (g : Nat) (W : World) : Kg g W W := rfl
theorem Kg.trans {g : Nat} {X Y Z : World} (h : Kg g X Y) (k : Kg g Y Z) : Kg g X Z := Eq.trans k h
theorem Kg.cell {g : Nat} {W W' : World} (h : Kg g W W') (o : Nat) : W'.cell? ⟨g, o, none⟩ = W.cell? ⟨g, o, none⟩ := World.cell?_of_block h
theorem Kg.putObj {g : Nat} (W : World) (l : Nat) (o' : Obj) (h : g ≠ l) : Kg g W (W.putObj l o') := World.putObj_heap_other h
theorem Kg.of_below {g n : Nat} {W W' : World} (h : Below n W W') (hg : g < n) : Kg g W W' := h.block g hg
def backFn (b : Nat) : Value := .func (.func 56) #[] #[.pointer (some ⟨b, 0, none⟩)]
set_option maxHeartbeats 1000000 in
theorem backward_in (n : Nat) (a : Option Addr) (len cap : Nat) (w : World) :
    CallsIn Fence.wide n Tryz.prog 35 #[.slice a len cap] w fun e w' => e = .returned (backFn w.heap.size) ∧ w' = w.alloc (.cells #[.slice a len cap] 52) := by
  refine callsIn_of_wp Tryz.func35 rfl trivial ?_ rfl
  simp only [Tryz.ntmps35, List.size_toArray, List.length_cons, List.length_nil, Nat.reduceAdd, Nat.reduceSub, Array.replicate_succ, Array.replicate_zero, List.push_toArray, List.append_toArray, List.nil_append, List.cons_append]
  gi_wp2
  go_ret
  exact ⟨rfl, rfl⟩
set_option maxRecDepth 100000 in
set_option maxHeartbeats 4000000 in
theorem backF_in (n : Nat) (hn : 1 ≤ n) (l Bs g o cap : Nat) (xs : List Ins) (hlen : xs.length ≤ 1000000) (J Jx : List (Nat × Ins) → World → Prop)
    (hY : ∀ (pre : List (Nat × Ins)) (x : Nat × Ins) W, J pre W → pre.length < xs.length → YieldAt Fence.wide (n - 1) Tryz.prog l #[.int .i64 (x.1 : Int), insV x.2] W fun e W' =>
      (e = .returned (.bool true) ∧ J (pre ++ [x]) W' ∧ Kg Bs W W' ∧ Kg g W W') ∨ (e = .returned (.bool false) ∧ Jx (pre ++ [x]) W'))
    (W : World) (hBs : W.cell? ⟨Bs, 0, none⟩ = some (.slice (some ⟨g, o, none⟩) xs.length cap)) (hc : ∀ j, j < xs.length * 5 → W.cell? ⟨g, o + j, none⟩ = (csN xs)[j]?) (h0 : J [] W) :
    CallsIn Fence.wide n Tryz.prog 56 #[.func (.yield l) #[] #[], .pointer (some ⟨Bs, 0, none⟩)] W fun e W' => (∃ v, e = .returned v) ∧
      ((∃ ys, ys.map Prod.snd = xs.reverse ∧ J ys W') ∨ (∃ pre, True ∧ Jx pre W')) := by
  refine callsIn_of_wp Tryz.func56 rfl trivial ?_ rfl
  simp only [Tryz.ntmps56, List.size_toArray, List.length_cons, List.length_nil, Nat.reduceAdd, Nat.reduceSub, Array.replicate_succ, Array.replicate_zero, List.push_toArray, List.append_toArray, List.nil_append, List.cons_append]
  obtain ⟨m, hm⟩ : ∃ m, xs.length = m := ⟨_, rfl⟩
  have HM := hideE hm
  rw [hm] at hlen hBs hc
  clear hm
  have hw1 : IntKind.i64.wrap ((m : Int) - 1) = (m : Int) - 1 := wrE (by omega) (by omega)
  have HC := hideE hc
  have HY := hideE hY
  clear hc hY
  gi_wp2
  gi_loopw [3] (fun i wr => ∃ (k : Nat) (pre : List (Nat × Ins)), k ≤ m ∧ pre.length = m - k ∧ pre.map Prod.snd = (xs.drop k).reverse ∧ i = .int .i64 ((k : Int) - 1) ∧ J pre wr ∧ Kg Bs W wr ∧ Kg g W wr)
    (fun i _ => (intOf i + 1).toNat)
  case atStart => exact ⟨m, [], Nat.le_refl _, by simp, by rw [List.drop_of_length_le (by rw [HM.out]; exact Nat.le_refl _)]; rfl, rfl, h0, Kg.refl _ _, Kg.refl _ _⟩
  case round =>
    obtain ⟨k, pre, hk, hpl, hpm, rfl, hJ, hnb, hng⟩ := hrel
    have hcb := (hnb.cell 0).trans hBs
    have HPM := hideE hpm
    clear hpm hw1
    cases k with
    | zero =>
      have h1 : ¬ ((0 : Int) ≤ ((0 : Nat) : Int) - 1) := by omega
      have h2 : ((0 : Nat) : Int) - 1 < 0 := by omega
      gi_wp2
      go_end0
      have hfin : pre.map Prod.snd = xs.reverse := HPM.out
      exact ⟨⟨_, rfl⟩, .inl ⟨pre, hfin, hJ⟩⟩
    | succ q =>
      have e0 : ((q + 1 : Nat) : Int) - 1 = (q : Int) := by omega
      rw [e0]
      have h1 : (0 : Int) ≤ (q : Int) := by omega
      have hqm : (q : Int) < (m : Int) := by omega
      have hwq : IntKind.i64.wrap ((q : Int) - 1) = (q : Int) - 1 := wrE (by omega) (by omega)
      obtain ⟨x, hx⟩ : ∃ x, xs[q]? = some x := ⟨xs[q]'(by rw [HM.out]; omega), List.getElem?_eq_getElem (by rw [HM.out]; omega)⟩
      have hf := SlN.at (W := W) (g := g) (o := o) (l := xs) (fun j hj => HC.out j (by rw [← HM.out]; exact hj)) q x hx
      obtain ⟨op, rd, rs1, rs2, imm⟩ := x
      simp only at hf
      obtain ⟨d0, d1, d2, d3, d4⟩ := hf
      have c0 := (hng.cell (o + q * 5)).trans d0
      have c1 := (hng.cell (o + q * 5 + 1)).trans d1
      have c2 := (hng.cell (o + q * 5 + 2)).trans d2
      have c3 := (hng.cell (o + q * 5 + 3)).trans d3
      have c4 := (hng.cell (o + q * 5 + 4)).trans d4
      obtain ⟨fn, tmps, assign, body, hy, hR⟩ := HY.out pre (q, ⟨op, rd, rs1, rs2, imm⟩) wr hJ (by rw [HM.out, hpl]; omega)
      simp only [insV] at hy
      have HP2 : Hid ((pre ++ [(q, (⟨op, rd, rs1, rs2, imm⟩ : Ins))]).map Prod.snd = (xs.drop q).reverse) := by
        show _ = _
        obtain ⟨hi, he⟩ := List.getElem?_eq_some_iff.1 hx
        rw [List.map_append, HPM.out, List.drop_eq_getElem_cons hi, he, List.reverse_cons]; rfl
      clear hx d0 d1 d2 d3 d4 e0
      gi_wp2
      refine hR.mono ?_
      rintro e W3 (⟨rfl, hJ3, hk3, hk4⟩ | ⟨rfl, hJx3⟩)
      · gi_wp2
        go_roundw
        case rel => exact ⟨q, _, by omega, by rw [List.length_append, hpl]; simp; omega, HP2.out, rfl, hJ3, hnb.trans hk3, hng.trans hk4⟩
        case measure => simp [intOf]
      · gi_wp2
        refine bodyPost_ret (results_none rfl _ _ _) rfl ?_
        exact ⟨⟨_, rfl⟩, .inr ⟨_, trivial, hJx3⟩⟩
set_option maxRecDepth 100000 in
set_option maxHeartbeats 1000000 in
theorem backF_nil (n : Nat) (l Bs : Nat) (a : Option Addr) (cap : Nat) (J : List (Nat × Ins) → World → Prop) (W : World) (hBs : W.cell? ⟨Bs, 0, none⟩ = some (.slice a 0 cap)) (h0 : J [] W) :
    CallsIn Fence.wide n Tryz.prog 56 #[.func (.yield l) #[] #[], .pointer (some ⟨Bs, 0, none⟩)] W fun e W' => (∃ v, e = .returned v) ∧ J [] W' := by
  refine callsIn_of_wp Tryz.func56 rfl trivial ?_ rfl
  simp only [Tryz.ntmps56, List.size_toArray, List.length_cons, List.length_nil, Nat.reduceAdd, Nat.reduceSub, Array.replicate_succ, Array.replicate_zero, List.push_toArray, List.append_toArray, List.nil_append, List.cons_append]
  have hw1 : IntKind.i64.wrap ((0 : Int) - 1) = -1 := by decide
  gi_wp2
  gi_loopw [3] (fun i wr => i = .int .i64 (-1) ∧ J [] wr) (fun _ _ => 0)
  case atStart => exact ⟨rfl, h0⟩
  case round =>
    obtain ⟨rfl, hJs⟩ := hrel
    gi_wp2
    go_end0
    exact ⟨⟨_, rfl⟩, hJs⟩
/-- Instructions, from the last one on. -/
theorem back_stops (n : Nat) (hn : 1 ≤ n) (Bs g : Nat) (sv : Value) (xs : List Ins) (hlen : xs.length ≤ 1000000) (w : World) (hb : Bs < w.heap.size) (hg : g < w.heap.size) (hc : w.cell? ⟨Bs, 0, none⟩ = some sv)
    (hS : (∃ p c, sv = .slice p 0 c ∧ xs = []) ∨ ∃ o cap, sv = .slice (some ⟨g, o, none⟩) xs.length cap ∧ ∀ j, j < xs.length * 5 → w.cell? ⟨g, o + j, none⟩ = (csN xs)[j]?) :
    SeqStopsK Fence.wide n Tryz.prog 56 #[.pointer (some ⟨Bs, 0, none⟩)] (fun x : Nat × Ins => #[Value.int .i64 (x.1 : Int), insV x.2]) (fun W W' => Kg Bs W W' ∧ Kg g W W') (fun ys => ys.map Prod.snd = xs.reverse) (fun _ => True) xs.length w := fun l J Jx W hW hJ hJx hY h0 => by
  have hc' := (hW.cell (p := ⟨Bs, 0, none⟩) hb).trans hc
  rcases hS with ⟨p, c, rfl, rfl⟩ | ⟨o, cap, rfl, hcs⟩
  · exact (backF_nil n l Bs p c J W hc' h0).mono fun e W' ⟨he, hj⟩ => ⟨he, .inl ⟨[], rfl, hj⟩⟩
  · exact backF_in n hn l Bs g o cap xs hlen J Jx hY W hc' (fun j hj => (hW.cell (p := ⟨g, o + j, none⟩) hg).trans (hcs j hj)) h0
def runB (pre : List (Nat × Ins)) (n : BitVec 32) : BitVec 32 := pre.foldl (fun c x => stepB x.2 c) (evenB n)
theorem runB_snoc (pre : List (Nat × Ins)) (x : Nat × Ins) (n : BitVec 32) : runB (pre ++ [x]) n = stepB x.2 (runB pre n) := by unfold runB; rw [List.foldl_append]; rfl
theorem runB_end {ys : List (Nat × Ins)} {l : List Ins} (h : ys.map Prod.snd = l.reverse) (n : BitVec 32) : runB ys n = backB l n := by
  have : ∀ (ys : List (Nat × Ins)) (b : BitVec 32), ys.foldl (fun c x => stepB x.2 c) b = (ys.map Prod.snd).foldl (fun c x => stepB x c) b := by
    intro ys
    induction ys with
    | nil => intro b; rfl
    | cons y ys ih => intro b; rw [List.foldl_cons, List.map_cons, List.foldl_cons, ih]
  unfold runB backB
  rw [this, h, List.foldl_reverse]
theorem lsets_at (op rd rs1 rs2 imm : Int) (S : BitVec 32) (h : setsB ⟨op, rd, rs1, rs2, imm⟩ = S) (w : World) : Calls Tryz.prog 17 #[.agg #[.int .i64 op, .int .i64 rd, .int .i64 rs1, .int .i64 rs2, .int .i64 imm]] w fun e w' => e = .returned (.int .u32 (S.toNat : Int)) ∧ Below w.heap.size w w' := by
  subst h; exact lsets_any ⟨op, rd, rs1, rs2, imm⟩ w
theorem luses_at (op rd rs1 rs2 imm : Int) (U : BitVec 32) (h : usesB ⟨op, rd, rs1, rs2, imm⟩ = U) (w : World) : Calls Tryz.prog 16 #[.agg #[.int .i64 op, .int .i64 rd, .int .i64 rs1, .int .i64 rs2, .int .i64 imm]] w fun e w' => e = .returned (.int .u32 (U.toNat : Int)) ∧ Below w.heap.size w w' := by
  subst h; exact luses_any ⟨op, rd, rs1, rs2, imm⟩ w
theorem even_and (n : BitVec 32) : bits .and .u32 (n.toNat : Int) 4294967294 = ((evenB n).toNat : Int) := by
  have h := Wd.and_ n allB
  exact h
theorem grown_below {W W' : World} (hb : Below W.heap.size W W') : W.grownBy W' none := ⟨hb.os, hb.tape, hb.output, hb.size, fun k hk _ => hb.block k hk⟩
theorem keepsFrom_below {B : Nat} {W W' : World} (hb : Below W.heap.size W W') : KeepsFrom B W W' := KeepsFrom.of_grownBy (grown_below hb) (fun j e => by cases e)
theorem boxed_below {W W' : World} {B : Nat} {t : TypeId} {v : Value} (h : Boxed W B t v) (hb : Below W.heap.size W W') : Boxed W' B t v := h.kept (grown_below hb) (by simp)
theorem row_own {β : Type} (B : Nat) (cs : β → Array Value) (t : TypeId) : Own (fun s W => W.heap[B]? = some (Obj.cells (cs s) t (0, 0))) := fun s X Y row hs hg hrow =>
  (hg.block B (Array.getElem?_eq_some_iff.1 hs).1 (fun e' => by obtain ⟨o, ho, hc⟩ := hrow B e'.symm; rw [show X.heap[B]? = _ from hs] at ho; cases ho; cases hc)).trans hs
def outB (x : Nat × Ins) (c : BitVec 32) : BitVec 32 := stepB x.2 c
set_option maxRecDepth 100000 in
set_option maxHeartbeats 8000000 in
theorem lback_any (l : List Ins) (v : Value) (n : BitVec 32) (hl : l.length ≤ 1000000) (w : World) (hS : SlN w v l) :
    Calls Tryz.prog 18 #[v, .int .u32 (n.toNat : Int)] w fun e w' => e = .returned (.int .u32 ((backB l n).toNat : Int)) ∧ Below w.heap.size w w' := by
  obtain ⟨p, c, rfl⟩ := hS.len
  have HEV := even_and n
  obtain ⟨g, hg, hS2⟩ : ∃ g, (g < w.heap.size ∨ g = w.heap.size + 1) ∧ ((∃ p' c', Value.slice p l.length c = .slice p' 0 c' ∧ l = []) ∨ ∃ o cap, Value.slice p l.length c = .slice (some ⟨g, o, none⟩) l.length cap ∧ g < w.heap.size ∧ ∀ j, j < l.length * 5 → w.cell? ⟨g, o + j, none⟩ = (csN l)[j]?) := by
    rcases hS with ⟨p', c', e, rfl⟩ | ⟨g, o, cap, e, hg, hc⟩
    · exact ⟨w.heap.size + 1, .inr rfl, .inl ⟨p', c', e, rfl⟩⟩
    · exact ⟨g, .inl hg, .inr ⟨o, cap, e, hg, hc⟩⟩
  obtain ⟨m, hm⟩ : ∃ m, l.length = m := ⟨_, rfl⟩
  have HS2 := hideE hS2
  have HM := hideE hm
  clear hS hS2
  rw [hm] at hl ⊢
  clear hm
  refine (callsIn_wide (n := 3)).1 ?_
  refine callsIn_of_wp_marks Tryz.func18 rfl trivial ?_ rfl
  simp only [Tryz.ntmps18, List.size_toArray, List.length_cons, List.length_nil, Nat.reduceAdd, Nat.reduceSub, Array.replicate_succ, Array.replicate_zero, List.push_toArray, List.append_toArray, List.nil_append, List.cons_append]
  gi_wp2_with (refine ⟨trivial, ?_⟩; gi_at_call 35; refine (backward_in _ _ _ _ _).mono ?_; rintro e w' ⟨rfl, rfl⟩)
  have bC := Boxed.new w 22 (.int .u32 ((evenB n).toNat : Int))
  have bS := Boxed.new (w.alloc (.cells #[.int .u32 ((evenB n).toNat : Int)] 22)) 52 (.slice p m c)
  rw [World.size_alloc] at bS
  have hB0 : Below w.heap.size w ((w.alloc (.cells #[.int .u32 ((evenB n).toNat : Int)] 22)).alloc (.cells #[.slice p m c] 52)) := ((Below.refl _ w).alloc (Nat.le_refl _) _).alloc (by simp) _
  have hS3 : (∃ p' c', Value.slice p m c = .slice p' 0 c' ∧ l = []) ∨ ∃ o cap, Value.slice p m c = .slice (some ⟨g, o, none⟩) l.length cap ∧ ∀ j, j < l.length * 5 → ((w.alloc (.cells #[.int .u32 ((evenB n).toNat : Int)] 22)).alloc (.cells #[.slice p m c] 52)).cell? ⟨g, o + j, none⟩ = (csN l)[j]? := by
    rcases HS2.out with h | ⟨o, cap, e, hg', hc⟩
    · rw [HM.out] at h; exact .inl h
    · rw [HM.out] at e
      exact .inr ⟨o, cap, by rw [HM.out]; exact e, fun j hj => by rw [hB0.cell (p := ⟨g, o + j, none⟩) hg']; exact hc j hj⟩
  have hlm : l.length ≤ 1000000 := by rw [HM.out]; exact hl
  refine wpIn_rangeFunc_ownH rfl (by omega) (gf := 56) (lb := #[.pointer (some ⟨w.heap.size + 1, 0, none⟩)]) rfl trivial (enters_of Tryz.func56 (by kernel_rfl) rfl)
    (back_stops 2 (by omega) (w.heap.size + 1) g (.slice p m c) l hlm _ (by simp) (by simp; omega) bS.cell hS3) (fun h k => ⟨h.1.trans k.1, h.2.trans k.2⟩) (fun W l' o o' hl' _ _ _ => ⟨Kg.putObj W l' o' (by simp at hl'; omega), Kg.putObj W l' o' (by simp at hl'; omega)⟩) (Below.refl _ _) (fun _ => rfl)
    (fun pre W => (Boxed W w.heap.size 22 (.int .u32 ((runB pre n).toNat : Int)) ∧ Boxed W (w.heap.size + 1) 52 (.slice p m c)) ∧ Below w.heap.size w W)
    (fun _ _ _ => False)
    (OwnFrom.and (OwnFrom.and (Own.from (boxed_own _ _ (fun pre => .int .u32 ((runB pre n).toNat : Int))) _) (Own.from (boxed_own _ _ _) _)) (ownFrom_below (Nat.le_refl _) (by simp; omega)))
    (fun _ _ _ _ _ hs _ _ => hs)
    ⟨⟨bC.alloc _, bS⟩, hB0⟩
    (fun x a' W => ∃ Bx, w.heap.size + 1 < Bx ∧ W.heap[Bx]? = some (.cells (insC x.2) 38 (0, 0)) ∧ a' = { tmps := #[.slice p m c, .int .u32 (n.toNat : Int), undef, undef, .int .u32 0, .pointer (some ⟨w.heap.size, 0, none⟩), undef, .pointer (some ⟨Bx, 0, none⟩), .int .u32 (n.toNat : Int), .int .u32 ((evenB n).toNat : Int), .slice p m c, backFn (w.heap.size + 1), .int .i64 (x.1 : Int), insV x.2, undef, undef, undef, undef, undef, undef, undef, undef], defers := [] })
    (fun x a' _ X Y row hs hg hr => by obtain ⟨Bx, h1, h2, h3⟩ := hs; exact ⟨Bx, h1, (row_own Bx (fun _ : Unit => insC x.2) 38) () X Y row h2 hg (fun r e => (hr r e).2), h3⟩)
    ?assign ?body ?done ?stop
  case assign =>
    rintro l' pre ⟨xi, op, rd, rs1, rs2, imm⟩ W K ⟨⟨h1, h2⟩, hB⟩ hK
    have HK := hideE hK
    have HB := hideE hB
    have H1 := hideE h1
    have H2 := hideE h2
    clear hK hB h1 h2
    simp only [insV]
    gi_wp2
    have hbW := (Below.refl W.heap.size W).alloc (Nat.le_refl _) (.cells #[.int .i64 op, .int .i64 rd, .int .i64 rs1, .int .i64 rs2, .int .i64 imm] 38)
    have hlt := H2.out.lt
    exact HK.out _ _ (keepsFrom_below hbW) ⟨Kg.of_below hbW hlt, Kg.of_below hbW (by omega)⟩ ⟨⟨H1.out.alloc _, H2.out.alloc _⟩, HB.out.alloc (by have := HB.out.size; omega) _⟩ ⟨W.heap.size, hlt, heap_alloc_new W _, rfl⟩
  case body =>
    rintro l' pre ⟨xi, op, rd, rs1, rs2, imm⟩ a' W hl' ⟨r, hr⟩ ⟨⟨hb1, hb2⟩, hB⟩ ⟨Bx, hBx, hbx, rfl⟩ hlt
    have hd : 1 ≤ 3 - 1 - 1 := by omega
    have hmx : Tryz.prog.follows .mixedOrders = true := by kernel_rfl
    obtain ⟨N, hN⟩ : ∃ N, runB pre n = N := ⟨_, rfl⟩
    obtain ⟨S, hSS⟩ : ∃ S, setsB ⟨op, rd, rs1, rs2, imm⟩ = S := ⟨_, rfl⟩
    obtain ⟨U, hU⟩ : ∃ U, usesB ⟨op, rd, rs1, rs2, imm⟩ = U := ⟨_, rfl⟩
    have HSt := hideE (fun W => lsets_at op rd rs1 rs2 imm S hSS W)
    have HUs := hideE (fun W => luses_at op rd rs1 rs2 imm U hU W)
    obtain ⟨A, hA⟩ : ∃ A, N &&& ~~~ S = A := ⟨_, rfl⟩
    have h1 : bits .andNot .u32 (N.toNat : Int) (S.toNat : Int) = (A.toNat : Int) := by rw [← hA]; exact Wd.andNot_ N S
    obtain ⟨C, hC⟩ : ∃ C, A ||| U = C := ⟨_, rfl⟩
    have h2 : bits .or .u32 (A.toNat : Int) (U.toNat : Int) = (C.toNat : Int) := by rw [← hC]; exact Wd.or_ A U
    have HC : Hid (C = runB (pre ++ [(xi, ⟨op, rd, rs1, rs2, imm⟩)]) n) := by
      show C = _
      rw [runB_snoc, hN]
      unfold stepB
      rw [hSS, hU, ← hC, ← hA]
    rw [hN] at hb1
    clear hN hSS hU hA hC hr
    have q0 := hb1.cell
    have q1 := hb1.frozen
    obtain ⟨d0, d1, d2, d3, d4⟩ := five hbx
    have HB1 := hideE hb1
    have HB2 := hideE hb2
    have HBX := hideE hbx
    have HB := hideE hB
    clear hb1 hb2 hB hbx
    simp only [insV]
    gi_wp2
    gi_region_with_o (first
      | (refine ⟨trivial, ?_⟩; gi_at_call 17; refine (CallsIn.inRound l' (callsIn_wide.2 (HSt.out _))).mono ?_; rintro e w1 ⟨rfl, hk1⟩; obtain ⟨d0, d1, d2, d3, d4⟩ := five (keptN hk1 HBX.out); have g1 := boxed_below (W := W.drew) HB1.out hk1; have q2 := g1.cell; have q3 := g1.frozen; have G1 := hideE g1; clear g1)
      | (refine ⟨trivial, ?_⟩; gi_at_call 16; refine (CallsIn.inRound l' (callsIn_wide.2 (HUs.out _))).mono ?_; rintro e w2 ⟨rfl, hk2⟩; have g2 := boxed_below G1.out hk2; have q4 := g2.cell; have q5 := g2.frozen; have G2 := hideE g2; clear g2))
    all_goals
      gi_wp2
      have e2 : Below W.heap.size W w1 := (Below.refl W.heap.size W).drew.trans hk1
      have e3 : Below W.heap.size W w2 := e2.trans (hk2.mono e2.size)
      have hlt2 := HB2.out.lt
      have k3 : ∀ g', g' < W.heap.size → g' ≠ w.heap.size → Kg g' W (w2.setCell ⟨w.heap.size, 0, none⟩ (.int .u32 (C.toNat : Int))) := fun g' h h' => (Below.heap_setCell _ _ _ _ h').trans (e3.block g' h)
      exact ⟨(keepsFrom_below e3).trans ((KeepsOthers.setCell _ _ _).from _), ⟨k3 _ hlt2 (by omega), k3 _ (by omega) (by omega)⟩, ⟨by rw [← HC.out]; exact G2.out.set _, (boxed_below HB2.out e3).other (by omega) _⟩, (HB.out.trans (e3.mono HB.out.size)).setCell (Nat.le_refl _) _⟩
  case done =>
    rintro D ys W hD hys ⟨⟨h1, h2⟩, hB⟩ hK
    have hc := h1.cell
    rw [runB_end hys] at hc
    gi_wp2
    refine ⟨by simp, .inl ⟨_, _, rfl, run_takeDeferred hK, ?_⟩⟩
    exact ⟨_, results_tmp rfl _ _ _, rfl, hB.trans (belowK_b (w := w) (Nat.le_refl _) W D _ _ (by simp at hD; omega) hK rfl rfl)⟩
  case stop =>
    rintro D c' pre W _ _ h _
    exact h.elim
end Go.Proofs.YtcffpmicencfpabGreat
namespace Go.Proofs.YtcffpmicencfpabGreat
open Go.RowKit Go.Lib Go.Sort Ip Bl Lv Pm
set_option linter.unusedSimpArgs false
set_option linter.unusedVariables false

def leavesX (x : Ins) : Bool := decide (x.op = 46) || ((decide (x.op = 2) || decide (x.op = 3)) && decide (x.rd ≠ 0))
theorem loose_leaves (x : Ins) (aw : Bool) : looseX x aw = (aw || leavesX x) := rfl
set_option maxHeartbeats 2000000 in
theorem leaves_at (op rd rs1 rs2 imm : Int) (w : World) : Calls Tryz.prog 29 #[.agg #[.int .i64 op, .int .i64 rd, .int .i64 rs1, .int .i64 rs2, .int .i64 imm]] w fun e w' => e = .returned (.bool (leavesX ⟨op, rd, rs1, rs2, imm⟩)) ∧ Below w.heap.size w w' := by
  have HB := hideE ((Below.refl _ w).alloc (Nat.le_refl _) (.cells #[.int .i64 op, .int .i64 rd, .int .i64 rs1, .int .i64 rs2, .int .i64 imm] 38))
  have hbx := inst_box w op rd rs1 rs2 imm
  obtain ⟨c0, c1, c2, c3, c4⟩ := five hbx
  clear hbx
  have hl : leavesX ⟨op, rd, rs1, rs2, imm⟩ = (decide (op = 46) || ((decide (op = 2) || decide (op = 3)) && decide (rd ≠ 0))) := rfl
  have HL := hideE hl
  clear hl
  by_cases h46 : op = 46
  · have HT : Hid (leavesX ⟨op, rd, rs1, rs2, imm⟩ = true) := by show _ = _; rw [HL.out, h46]; rfl
    have q46 : (op == 46) = true := by rw [h46]; rfl
    clear h46
    go_enter Tryz.func29, Tryz.ntmps29
    go_wp2_with fail
    go_ret
    exact ⟨retb HT.out.symm, HB.out⟩
  · have q46 : (op == 46) = false := beq_eq_false_iff_ne.2 h46
    by_cases h2 : op = 2
    · have q2 : (op == 2) = true := by rw [h2]; rfl
      have HT : Hid (leavesX ⟨op, rd, rs1, rs2, imm⟩ = (rd != 0)) := by show _ = _; rw [HL.out, decide_eq_false h46, h2]; cases e : (rd != 0) <;> simp_all
      obtain ⟨b, hb⟩ : ∃ b, (rd != 0) = b := ⟨_, rfl⟩
      rw [hb] at HT
      clear h46 h2
      go_enter Tryz.func29, Tryz.ntmps29
      go_wp2_with fail
      go_ret
      exact ⟨retb (by rw [HT.out]), HB.out⟩
    · have q2 : (op == 2) = false := beq_eq_false_iff_ne.2 h2
      by_cases h3 : op = 3
      · have q3 : (op == 3) = true := by rw [h3]; rfl
        have HT : Hid (leavesX ⟨op, rd, rs1, rs2, imm⟩ = (rd != 0)) := by show _ = _; rw [HL.out, decide_eq_false h46, decide_eq_false h2, h3]; cases e : (rd != 0) <;> simp_all
        obtain ⟨b, hb⟩ : ∃ b, (rd != 0) = b := ⟨_, rfl⟩
        rw [hb] at HT
        clear h46 h2 h3
        go_enter Tryz.func29, Tryz.ntmps29
        go_wp2_with fail
        go_ret
        exact ⟨retb (by rw [HT.out]), HB.out⟩
      · have q3 : (op == 3) = false := beq_eq_false_iff_ne.2 h3
        have HT : Hid (leavesX ⟨op, rd, rs1, rs2, imm⟩ = false) := by show _ = _; rw [HL.out, decide_eq_false h46, decide_eq_false h2, decide_eq_false h3]; rfl
        clear h46 h2 h3
        go_enter Tryz.func29, Tryz.ntmps29
        go_wp2_with fail
        go_ret
        exact ⟨retb HT.out.symm, HB.out⟩
set_option maxHeartbeats 4000000 in
set_option maxRecDepth 100000 in
theorem equalB_any (la lb : List (Nat × Nat)) (a b : Value) (hl : la.length ≤ 1000000) (w : World) (hSa : SlB w a la) (hSb : SlB w b lb) :
    Calls Tryz.prog 26 #[a, b] w fun e w' => e = .returned (.bool (decide (la = lb))) ∧ Below w.heap.size w w' := by
  obtain ⟨p, c, rfl⟩ := hSa.len
  obtain ⟨p', c', rfl⟩ := hSb.len
  have HA := hideE hSa
  have HB := hideE hSb
  clear hSa hSb
  obtain ⟨nn, hnn⟩ : ∃ n, la.length = n := ⟨_, rfl⟩
  obtain ⟨mm, hmm⟩ : ∃ n, lb.length = n := ⟨_, rfl⟩
  rw [hnn] at HA hl
  rw [hmm] at HB
  rw [hnn, hmm]
  have HN := hideE hnn
  have HM := hideE hmm
  clear hnn hmm
  by_cases hq : nn = mm
  · subst hq
    go_enter Tryz.func26, Tryz.ntmps26
    go_wp2_with fail
    go_loopg [13] nn (fun q i wr => ∃ k : Nat, k + q = nn ∧ i = .int .i64 (k : Int) ∧ la.take k = lb.take k ∧ Below w.heap.size w wr)
    case atStart => exact ⟨0, by omega, rfl, by simp, Below.refl _ _⟩
    case round =>
      obtain ⟨k, hkq, rfl, htk, hT⟩ := hrel
      have HT := hideE htk
      clear htk
      cases gk with
      | zero =>
        obtain rfl : k = nn := by omega
        have hk : ¬ ((k : Int) < (k : Int)) := by omega
        have HTw := hideE hT
        clear hT
        go_wp2_with fail
        go_ret
        exact ⟨congrArg (fun t => Ending.returned (.bool t)) (decide_eq_true (by
          have := HT.out
          rwa [List.take_of_length_le (by rw [HN.out]; omega), List.take_of_length_le (by rw [HM.out]; omega)] at this)).symm, HTw.out⟩
      | succ q =>
        have hk : ((k : Int) < (nn : Int)) := by omega
        have hk0 : (0 : Int) ≤ (k : Int) := by omega
        have hwk : IntKind.i64.wrap ((k : Int) + 1) = (k : Int) + 1 := wrE (by omega) (by omega)
        obtain ⟨u, hu⟩ : ∃ u, la[k]? = some u := ⟨la[k]'(by rw [HN.out]; omega), List.getElem?_eq_getElem (by rw [HN.out]; omega)⟩
        obtain ⟨v, hv⟩ : ∃ v, lb[k]? = some v := ⟨lb[k]'(by rw [HM.out]; omega), List.getElem?_eq_getElem (by rw [HM.out]; omega)⟩
        obtain ⟨g, rfl, a3, a4⟩ := (HA.out.below hT).at hu
        obtain ⟨g', rfl, c3, c4⟩ := (HB.out.below hT).at hv
        have Hu := hideE hu
        have Hv := hideE hv
        have HTw := hideE hT
        obtain ⟨u1, u2⟩ := u
        obtain ⟨v1, v2⟩ := v
        simp only at a3 a4 c3 c4
        clear hu hv hT
        by_cases huv : (u1, u2) = (v1, v2)
        · injection huv with e1 e2
          subst e1 e2
          go_wp2_with fail
          go_quiet (fail)
          go_wp2_with fail
          go_roundg q
          case measure => omega
          case rel => exact ⟨k + 1, by omega, by simp, take_stepB HT.out Hu.out Hv.out, HTw.out.trans ((drew_low _ _ _).mono (HTw.out.size))⟩
        · by_cases e1 : u1 = v1
          · subst e1
            have hne : ¬ ((u2 : Int) = (v2 : Int)) := fun e2 => huv (by rw [show u2 = v2 by omega])
            have HV := hideE huv
            clear huv
            go_wp2_with fail
            go_quiet (fail)
            go_wp2_with fail
            go_ret
            exact ⟨congrArg (fun t => Ending.returned (.bool t)) (decide_eq_false (fun e => HV.out (by have := Hu.out; rw [e, Hv.out] at this; injection this with this; exact this.symm))).symm, HTw.out.trans ((drew_low _ _ _).mono (HTw.out.size))⟩
          · have hne : ¬ ((u1 : Int) = (v1 : Int)) := by omega
            clear e1
            have HV := hideE huv
            clear huv
            go_wp2_with fail
            go_quiet (fail)
            go_wp2_with fail
            go_ret
            exact ⟨congrArg (fun t => Ending.returned (.bool t)) (decide_eq_false (fun e => HV.out (by have := Hu.out; rw [e, Hv.out] at this; injection this with this; exact this.symm))).symm, HTw.out.trans ((drew_low _ _ _).mono (HTw.out.size))⟩
  · have hq2 : ((nn : Int) != (mm : Int)) = true := bne_iff_ne.2 (by omega)
    have HQ := hideE hq
    clear hq
    go_enter Tryz.func26, Tryz.ntmps26
    go_wp2_with fail
    go_ret
    exact ⟨congrArg (fun t => Ending.returned (.bool t)) (decide_eq_false (fun e => HQ.out (by rw [← HN.out, ← HM.out, e]))).symm, Below.refl _ _⟩
end Go.Proofs.YtcffpmicencfpabGreat
