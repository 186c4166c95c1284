/-
  Contracts: the library's slices.Values at words; package image's written: the bytes of words.
-/
import Derived.Test.YtkfomhllaogplaaGE
import Derived.Test.YtkfomhllaogplaaEL
namespace Go.Proofs.Ytkfomhllaogplaa
open Go.RowKit El Go.Lib Go.Shelf
open Classical
set_option linter.unusedSimpArgs false
set_option linter.unusedVariables false

attribute [local go_sem] Oper.semAt_some

set_option maxHeartbeats 1000000 in
theorem values_in (n : Nat) (a : Option Addr) (len cap : Nat) (w : World) :
    CallsIn Fence.wide n Try.prog 34 #[.slice a len cap] w fun e w' => e = .returned (.func (.func 52) #[] #[.pointer (some ⟨w.heap.size, 0, none⟩)]) ∧ w' = w.alloc (.cells #[.slice a len cap] 27) := by
  refine callsIn_of_wp Try.func34 rfl trivial ?_ rfl
  simp only [Try.ntmps34, List.size_toArray, List.length_cons, List.length_nil, Nat.reduceAdd, Nat.reduceSub, Array.replicate_succ, Array.replicate_zero, List.push_toArray, List.append_toArray, List.nil_append, List.cons_append]
  gi_wp2
  go_ret
  exact ⟨rfl, rfl⟩
theorem values_any (a : Option Addr) (len cap : Nat) (w : World) :
    Calls Try.prog 34 #[.slice a len cap] w fun e w' => e = .returned (.func (.func 52) #[] #[.pointer (some ⟨w.heap.size, 0, none⟩)]) ∧ w' = w.alloc (.cells #[.slice a len cap] 27) :=
  (callsIn_wide (n := 1)).1 (values_in 1 a len cap w)
set_option maxRecDepth 100000 in
set_option maxHeartbeats 4000000 in
theorem valuesF_in (n : Nat) (hn : 1 ≤ n) (l Bs g o cap : Nat) (zs : List (BitVec 32)) (hlen : zs.length ≤ 4000000) (J Jx : List (BitVec 32) → World → Prop)
    (hY : ∀ pre (x : BitVec 32) W, J pre W → pre.length < zs.length → YieldAt Fence.wide (n - 1) Try.prog l #[.int .u32 (x.toNat : Int)] W fun e W' =>
      (e = .returned (.bool true) ∧ J (pre ++ [x]) W' ∧ Kb g W W') ∨ (e = .returned (.bool false) ∧ Jx (pre ++ [x]) W'))
    (W : World) (hBs : W.cell? ⟨Bs, 0, none⟩ = some (.slice (some ⟨g, o, none⟩) zs.length cap)) (hc : ∀ (j : Nat) (x : BitVec 32), zs[j]? = some x → W.cell? ⟨g, o + j, none⟩ = some (.int .u32 (x.toNat : Int))) (h0 : J [] W) :
    CallsIn Fence.wide n Try.prog 52 #[.func (.yield l) #[] #[], .pointer (some ⟨Bs, 0, none⟩)] W fun e W' => (∃ v, e = .returned v) ∧
      ((∃ ys, ys = zs ∧ J ys W') ∨ (∃ pre, pre <+: zs ∧ Jx pre W')) := by
  refine callsIn_of_wp Try.func52 rfl trivial ?_ rfl
  simp only [Try.ntmps52, List.size_toArray, List.length_cons, List.length_nil, Nat.reduceAdd, Nat.reduceSub, Array.replicate_succ, Array.replicate_zero, List.push_toArray, List.append_toArray, List.nil_append, List.cons_append]
  gi_wp2
  gi_loopw [7] (fun i wr => ∃ k : Nat, k ≤ zs.length ∧ i = .int .i64 (k : Int) ∧ J (zs.take k) wr ∧ Kb g W wr)
    (fun i _ => zs.length - (intOf i).toNat)
  case atStart => exact ⟨0, Nat.zero_le _, rfl, h0, Kb.refl _ _⟩
  case round =>
    obtain ⟨k, hk, rfl, hJs, hnx⟩ := hrel
    by_cases hlt : k < zs.length
    · obtain ⟨x, hx⟩ : ∃ x, zs[k]? = some x := ⟨zs[k]'hlt, List.getElem?_eq_getElem hlt⟩
      have hcx : wr.cell? ⟨g, o + k, none⟩ = some (.int .u32 (x.toNat : Int)) := (hnx.cell (o + k)).trans (hc k x hx)
      have ht : zs.take (k + 1) = zs.take k ++ [x] := by rw [List.take_add_one, hx]; rfl
      have hlt' : (k : Int) < (zs.length : Int) := by omega
      have hk0 : (0 : Int) ≤ (k : Int) := by omega
      have hwk : IntKind.i64.wrap ((k : Int) + 1) = (k : Int) + 1 := wrE (by omega) (by omega)
      obtain ⟨fn, tmps, assign, body, hy, hR⟩ := hY _ x wr hJs (by rw [List.length_take]; omega)
      have HT := hideE ht
      clear ht hx
      gi_wp2
      refine hR.mono ?_
      rintro e W3 (⟨rfl, hJ3, hk3⟩ | ⟨rfl, hJx3⟩)
      · gi_wp2
        go_roundw
        case rel => exact ⟨k + 1, by omega, by simp, by rw [HT.out]; exact hJ3, hnx.trans hk3⟩
        case measure => simp [intOf]; omega
      · gi_wp2
        refine bodyPost_ret (results_none rfl _ _ _) rfl ?_
        exact ⟨⟨_, rfl⟩, .inr ⟨_, by rw [← HT.out]; exact List.take_prefix _ _, hJx3⟩⟩
    · obtain rfl : k = zs.length := by omega
      have hkl : ¬ ((zs.length : Int) < (zs.length : Int)) := by omega
      gi_wp2
      go_end0
      have hfin : J zs wr := by rw [List.take_length] at hJs; exact hJs
      first | exact ⟨⟨_, rfl⟩, .inl ⟨_, rfl, hfin⟩⟩ | exact ⟨⟨_, rfl⟩, .inl hfin⟩
set_option maxRecDepth 100000 in
set_option maxHeartbeats 1000000 in
theorem valuesF_nil (n : Nat) (l Bs : Nat) (a : Option Addr) (cap : Nat) (J : List (BitVec 32) → World → Prop) (W : World) (hBs : W.cell? ⟨Bs, 0, none⟩ = some (.slice a 0 cap)) (h0 : J [] W) :
    CallsIn Fence.wide n Try.prog 52 #[.func (.yield l) #[] #[], .pointer (some ⟨Bs, 0, none⟩)] W fun e W' => (∃ v, e = .returned v) ∧ J [] W' := by
  refine callsIn_of_wp Try.func52 rfl trivial ?_ rfl
  simp only [Try.ntmps52, List.size_toArray, List.length_cons, List.length_nil, Nat.reduceAdd, Nat.reduceSub, Array.replicate_succ, Array.replicate_zero, List.push_toArray, List.append_toArray, List.nil_append, List.cons_append]
  gi_wp2
  gi_loopw [7] (fun i wr => i = .int .i64 0 ∧ J [] wr) (fun _ _ => 0)
  case atStart => exact ⟨rfl, h0⟩
  case round =>
    obtain ⟨rfl, hJs⟩ := hrel
    gi_wp2
    go_end0
    exact ⟨⟨_, rfl⟩, hJs⟩
/-- The words of a slice, one by one. -/
theorem values_stops (n : Nat) (hn : 1 ≤ n) (Bs g : Nat) (sv : Value) (zs : List (BitVec 32)) (hlen : zs.length ≤ 4000000) (w : World) (hb : Bs < w.heap.size) (hg : g < w.heap.size) (hc : w.cell? ⟨Bs, 0, none⟩ = some sv)
    (hS : (∃ p c, sv = .slice p 0 c ∧ zs = []) ∨ ∃ o cap, sv = .slice (some ⟨g, o, none⟩) zs.length cap ∧ ∀ (j : Nat) (x : BitVec 32), zs[j]? = some x → w.cell? ⟨g, o + j, none⟩ = some (.int .u32 (x.toNat : Int))) :
    SeqStopsK Fence.wide n Try.prog 52 #[.pointer (some ⟨Bs, 0, none⟩)] (fun x : BitVec 32 => #[Value.int .u32 (x.toNat : Int)]) (Kb g) (fun ys => ys = zs) (fun pre => pre <+: zs) zs.length w := fun l J Jx W hW hJ hJx hY h0 => by
  have hc' := (hW.cell (p := ⟨Bs, 0, none⟩) hb).trans hc
  rcases hS with ⟨p, c, rfl, rfl⟩ | ⟨o, cap, rfl, hcs⟩
  · exact (valuesF_nil n l Bs p c J W hc' h0).mono fun e W' ⟨he, hj⟩ => ⟨he, .inl ⟨_, rfl, hj⟩⟩
  · exact valuesF_in n hn l Bs g o cap zs hlen J Jx hY W hc' (fun j x hx => (hW.cell (p := ⟨g, o + j, none⟩) hg).trans (hcs j x hx)) h0
theorem Bd.kept {b : Nat} {l : List UInt8} {W W' : World} {row : Option Nat} (h : Bd b l W) (hg : W.grownBy W' row) (hrow : ∀ r, row = some r → ∃ o : Obj, W.heap[r]? = some o ∧ o.isCells = false) : Bd b l W' := by
  have key : ∀ p, Lib.BuilderAtF 92 5 b b p (Lib.byteCells l) W → Lib.BuilderAtF 92 5 b b p (Lib.byteCells l) W' := fun p hp => by
    obtain ⟨hB, v, hb, hown, hne⟩ := hp
    have ne : ∀ (k : Nat) (cs : Array Value) (t : TypeId) (fz : Nat × Nat), W.heap[k]? = some (Obj.cells cs t fz) → W'.heap[k]? = some (Obj.cells cs t fz) := fun k cs t fz hk => by
      rw [hg.block k (Array.getElem?_eq_some_iff.1 hk).1 (fun e => by
        obtain ⟨o, ho, hc⟩ := hrow k e.symm
        rw [hk] at ho; cases ho; cases hc)]; exact hk
    refine ⟨hB, v, ne _ _ _ _ hb, ⟨hown.1, ?_⟩, hne⟩
    rcases hown.2 with hn | ⟨g, cap, cur, fz, hv, hbg, hgg, rest⟩
    · exact .inl hn
    · exact .inr ⟨g, cap, cur, fz, hv, hbg, ne _ _ _ _ hgg, rest⟩
  exact h.elim (fun x => .inl (key _ x)) (fun x => .inr (key _ x))
theorem bd_own {β : Type} (b : Nat) (f : β → List UInt8) : Own (fun s W => Bd b (f s) W) := fun s X Y row hs hg hrow => hs.kept hg hrow
theorem Bd.cells {b : Nat} {l : List UInt8} {W : World} (h : Bd b l W) : ∃ cs t fz, W.heap[b]? = some (.cells cs t fz) := by
  rcases h with ⟨_, v, hb, _⟩ | ⟨_, v, hb, _⟩ <;> exact ⟨_, _, _, hb⟩
theorem Kp.from {b B : Nat} {l : List UInt8} {W W' : World} (h : Kp b W W') (hB : Bd b l W) : KeepsFrom B W W' :=
  ⟨h.low.size, fun k o _ hk ho => h.others k o hk (fun e => by
    obtain ⟨cs, t, fz, hb⟩ := hB.cells
    injection e with e; subst e
    rw [hb] at hk; cases hk; cases ho) (fun c fz e => by subst e; cases ho)⟩
theorem Bd.fresh (w : World) : Bd w.heap.size [] (w.alloc (.cells #[.pointer none, .slice none 0 0] 92)) := Lib.IsBuilderF.of (Lib.fresh_isBuilder _ _ w)
def natsOf (zs : List (BitVec 32)) : List Nat := zs.map BitVec.toNat
set_option maxRecDepth 100000 in
set_option maxHeartbeats 4000000 in
theorem written_words (Bs g : Nat) (sv : Value) (zs : List (BitVec 32)) (hlen : zs.length ≤ 4000000) (w : World) (hb : Bs < w.heap.size) (hg : g < w.heap.size) (hc : w.cell? ⟨Bs, 0, none⟩ = some sv)
    (hS : (∃ p c, sv = .slice p 0 c ∧ zs = []) ∨ ∃ o cap, sv = .slice (some ⟨g, o, none⟩) zs.length cap ∧ ∀ (j : Nat) (x : BitVec 32), zs[j]? = some x → w.cell? ⟨g, o + j, none⟩ = some (.int .u32 (x.toNat : Int))) :
    Calls Try.prog 33 #[.func (.func 52) #[] #[.pointer (some ⟨Bs, 0, none⟩)]] w fun e W' => e = .returned (.string ⟨(bytesW (natsOf zs)).toArray⟩) ∧ Below w.heap.size w W' := by
  have hSt := values_stops 2 (by omega) Bs g sv zs hlen w hb hg hc hS
  clear hS hc
  refine (callsIn_wide (n := 3)).1 ?_
  refine callsIn_of_wp_marks Try.func33 rfl trivial ?_ rfl
  simp only [Try.ntmps33, List.size_toArray, List.length_cons, List.length_nil, Nat.reduceAdd, Nat.reduceSub, Array.replicate_succ, Array.replicate_zero, List.push_toArray, List.append_toArray, List.nil_append, List.cons_append]
  gi_wp2
  have bB := Bd.fresh w
  have hB0 : Below w.heap.size w (w.alloc (.cells #[.pointer none, .slice none 0 0] 92)) := (Below.refl _ w).alloc (Nat.le_refl _) _
  refine wpIn_rangeFunc_ownG rfl (by omega) (gf := 52) (lb := #[.pointer (some ⟨Bs, 0, none⟩)]) rfl trivial (enters_of Try.func52 (by kernel_rfl) rfl)
    hSt (fun h k => h.trans k) (fun W l o o' hl _ _ _ => Kb.putObj W l o' (by simp at hl; omega)) hB0 (fun _ => rfl)
    (fun pre W => Bd w.heap.size (bytesW (natsOf pre)) W ∧ Below w.heap.size w W)
    (fun _ _ _ => False)
    (OwnFrom.and (Own.from (bd_own w.heap.size (fun pre => bytesW (natsOf pre))) _) (ownFrom_below (Nat.le_refl _) (by simp)))
    (fun _ _ _ _ _ hs _ _ => hs)
    ⟨bB, hB0⟩
    (fun x => { tmps := #[.func (.func 52) #[] #[.pointer (some ⟨Bs, 0, none⟩)], undef, .string ⟨#[]⟩, .pointer (some ⟨w.heap.size, 0, none⟩), .int .u32 (x.toNat : Int), .func (.func 52) #[] #[.pointer (some ⟨Bs, 0, none⟩)], .int .u32 (x.toNat : Int), undef, undef, undef, undef, undef, undef, undef, undef, undef], defers := [] }) ?assign ?body ?done ?stop
  case assign =>
    intro l x W K hK
    gi_wp2
    exact hK
  case body =>
    rintro l pre x W ⟨hBd, hB⟩ hlt
    have hx := x.isLt
    have hbl : (bytesW (natsOf pre)).length ≤ 16000000 := by rw [bytesW_len]; unfold natsOf; rw [List.length_map]; omega
    have HBd := hideE hBd
    clear hBd
    gi_wp2
    gi_loopw [4, 7] (fun u i wr => ∃ (k y : Nat) (l' : List UInt8), k ≤ 4 ∧ i = .int .i64 (k : Int) ∧ u = .int .u32 (y : Int) ∧ y < 4294967296 ∧ l'.length = (bytesW (natsOf pre)).length + k ∧ Bd w.heap.size l' wr ∧ Kp w.heap.size W wr ∧ bytesW (natsOf pre) ++ numB 4 x.toNat = l' ++ numB (4 - k) y)
      (fun u i _ => 4 - (intOf i).toNat)
    case atStart => exact ⟨0, x.toNat, bytesW (natsOf pre), by omega, rfl, rfl, hx, rfl, HBd.out, Kp.refl _ _, rfl⟩
    case round =>
      obtain ⟨k, y, l', hk, rfl, rfl, hy, hl', hB1, hK1, he⟩ := hrel
      have He := hideE he
      have HK := hideE hK1
      have HB := hideE hB1
      clear he hK1 hB1
      by_cases hk4 : k < 4
      · have hk' : (k : Int) < 4 := by omega
        have hwk : IntKind.i64.wrap ((k : Int) + 1) = (k : Int) + 1 := wrE (by omega) (by omega)
        gi_wp2_with (refine ⟨trivial, ?_⟩; gi_at_call 50; refine (CallsIn.inRound l (callsIn_wide.2 (wbyteE w.heap.size l' _ (b1 y) (by rw [b1_toNat]; omega) _ HB.out (by omega)))).mono ?_; rintro e w1 ⟨rfl, hB2, hK2⟩)
        go_roundw
        case rel => exact ⟨k + 1, y / 256, l' ++ [b1 y], by omega, by simp, by simp, by omega, by simp; omega, hB2, HK.out.trans hK2, by rw [He.out, show 4 - k = (4 - (k + 1)) + 1 by omega, numB]; simp⟩
        case measure => simp [intOf]; omega
      · obtain rfl : k = 4 := by omega
        gi_wp2
        have e4 : bytesW (natsOf (pre ++ [x])) = l' := by
          have := He.out
          rw [numB_four, show numB (4 - 4) y = [] from rfl, List.append_nil] at this
          rw [← this]; unfold natsOf; rw [List.map_append, bytesW_app]; simp [bytesW]
        exact ⟨HK.out.from HBd.out, Kb.of_below HK.out.low hg, by rw [e4]; exact HB.out, hB.trans HK.out.low⟩
  case done =>
    rintro D ys W hD rfl ⟨hBd, hB⟩ hK
    gi_wp2_with (refine ⟨trivial, ?_⟩; gi_at_call 51; refine (callsIn_wide.2 (stringE w.heap.size _ _ hBd)).mono ?_; rintro e w1 ⟨rfl, hK2⟩)
    have hK3 : w1.heap[D]? = some (.deferred (some [])) := hK2.others D _ hK (fun e => by simp at e hD; omega) (fun _ _ e => by cases e)
    refine ⟨by simp, .inl ⟨_, _, rfl, run_takeDeferred hK3, ?_⟩⟩
    exact ⟨_, results_tmp rfl _ _ _, rfl, (hB.trans hK2.low).trans (belowK_b (w := w) (Nat.le_refl _) w1 D _ _ (by simp at hD; omega) hK3 rfl rfl)⟩
  case stop =>
    rintro D c pre W _ _ h _
    exact h.elim
end Go.Proofs.Ytkfomhllaogplaa
