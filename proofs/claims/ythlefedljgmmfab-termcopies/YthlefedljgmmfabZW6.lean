/-
  The numbers of terms as a map's datum: a term is its own key; what is found there is its place in the list.
  Contracts of the library's sync.Once and sync/atomic.Int64, in the run of one goroutine.
  The code's terms in memory: a count, a slice, a once, a map. Contract of numbers: the map, made at the first call.
-/
import Derived.Maps.OwnSet
import Derived.DeepKeys5
import Derived.WalkArith
import Derived.Defers
import Derived.Laws.Pointers
import Derived.Laws.LoneSync
import Derived.Laws.NewBlocks
import Derived.RegionTactic
import Derived.RegionCalls
import Derived.Shelf.Abstract
import Derived.Carry
import Derived.Test.YthlefedljgmmfabZC1
import Derived.Test.YthlefedljgmmfabZW1
import Derived.Test.YthlefedljgmmfabZW2
namespace Go.Proofs.Ythlefedljgmmfab
open Go.RowKit Go.Lib Tm
set_option linter.unusedSimpArgs false
set_option linter.unusedVariables false

theorem cells10T : Try.prog.cellsOf 36 = 5 := by kernel_rfl
theorem rowT10 : (36 : TypeId) < Try.prog.types.size := of_decide_eq_true (by kernel_rfl)
theorem wideT10 : (match Try.prog.underlying 36 with | some (.array _ _) | some (.struct _) => true | _ => false) = true := by kernel_rfl
theorem deepT10 : Try.prog.keyTypeAt (Try.prog.types.size + 1) 36 = true := by kernel_rfl
set_option maxRecDepth 100000 in
theorem lawT10 : Maps.Keyed Try.prog 36 := Maps.Keyed.of_law (deep_law_laid laidOut6 (m := 3) (by omega) rowT10 (by kernel_rfl) wideT10)
namespace Tm
def WfT (t : Trm) : Prop := ((Lit.int .i64 t.kind).wf = true ∧ (Lit.int .i64 t.op).wf = true) ∧ ((Lit.int .i64 t.a).wf = true ∧ (Lit.int .i64 t.b).wf = true)
theorem wfT_mk {k : Int} {v : BitVec 32} {op a b : Int} (h0 : 0 ≤ k ∧ k ≤ 2) (h1 : 0 ≤ op ∧ op ≤ 44) (h2 : 0 ≤ a ∧ a ≤ 1000000) (h3 : 0 ≤ b ∧ b ≤ 1000000) : WfT ⟨k, v, op, a, b⟩ :=
  ⟨⟨WalkArith.wf_i64 (n := k) (by omega), WalkArith.wf_i64 (n := op) (by omega)⟩, WalkArith.wf_i64 (n := a) (by omega), WalkArith.wf_i64 (n := b) (by omega)⟩
theorem fine_wf {i : Nat} {t : Trm} (h : Fine i t) (hi : i ≤ 1000000) : WfT t := by
  rcases h with ⟨v, rfl⟩ | ⟨r, h0, hr, rfl⟩ | ⟨op, a, b, h1, h2, ha, hb, rfl⟩
  · exact wfT_mk (by omega) (by omega) (by omega) (by omega)
  · rw [reg_nat h0 hr]; exact wfT_mk (by omega) (by omega) (by omega) (by omega)
  · exact wfT_mk (by omega) (by omega) (by omega) (by omega)
def litsT (t : Trm) : List Lit := [.int .i64 t.kind, .int .u32 (t.v.toNat : Int), .int .i64 t.op, .int .i64 t.a, .int .i64 t.b]
def keyT (t : Trm) : Lit := .string (keyBytes (litsT t))
end Tm
theorem size10 : ∃ m, Try.prog.types.size = m + 1 := by
  have h := rowT10
  generalize Try.prog.types.size = n at h ⊢
  cases n with
  | zero => exact absurd h (by decide)
  | succ m => exact ⟨m, rfl⟩
theorem wf32T (v : BitVec 32) : (Lit.int .u32 (v.toNat : Int)).wf = true := WalkArith.wf_u32 (by have := v.isLt; omega)
theorem lits10 {t : Trm} (h : WfT t) : Try.prog.keyLits (Try.prog.types.size + 1) 36 (trmC t) = some (litsT t) := by
  obtain ⟨m, hm⟩ := size10
  rw [hm]
  have hv := wf32T t.v
  obtain ⟨⟨h1, h2⟩, h3, h4⟩ := h
  simp [Program.keyLits, Try.underlying36, Try.underlying3, Try.underlying23, cells10T, cellsEU, cellsEI, trmC, litsT, h1, h2, h3, h4, hv]
theorem key10 {t : Trm} (h : WfT t) : keyOf Try.prog 36 (.agg (termC t)) = some (keyT t) := by
  have hf : (Value.agg (termC t)).formed Try.prog 36 = true := by
    simp [Value.formed, Try.underlying36, cells10T, termC]
  have hl : Try.prog.keyLits (Try.prog.types.size + 1) 36 (Value.agg (termC t)).cells.toList = some (litsT t) := lits10 h
  unfold keyOf
  rw [Try.underlying36]
  simp only []
  rw [if_pos (by rw [show Try.prog.keyType 36 = true from deepT10, hf]; rfl), hl]
  rfl
theorem termC_inj {s t : Trm} (h : termC s = termC t) : s = t := by
  obtain ⟨k, v, o, a, b⟩ := s
  obtain ⟨k', v', o', a', b'⟩ := t
  unfold termC at h
  simp at h
  obtain ⟨h1, h2, h3, h4, h5⟩ := h
  subst h1 h3 h4 h5
  obtain rfl : v = v' := BitVec.eq_of_toNat_eq (by omega)
  rfl
set_option maxRecDepth 100000 in
theorem keyT_inj {s t : Trm} (hs : WfT s) (ht : WfT t) (h : keyT s = keyT t) : s = t := by
  have k1 := key10 hs
  rw [h] at k1
  have k2 := lawT10.inj k1 (key10 ht)
  injection k2 with e
  exact termC_inj e
theorem keyT_is {t : Trm} : WideAt.IsKeyLit (keyT t) := trivial
namespace Tm
/-- What the map of numbers reads as. -/
def numD (L : List Trm) : DataW Unit := (L.foldl (fun (p : DataW Unit × Nat) t => (p.1.put (keyT t) (.lit (.int .i64 (p.2 : Int))), p.2 + 1)) (.map [], 0)).1
theorem numD_nil : numD [] = .map [] := rfl
theorem num_len (L : List Trm) : (L.foldl (fun (p : DataW Unit × Nat) t => (p.1.put (keyT t) (.lit (.int .i64 (p.2 : Int))), p.2 + 1)) (.map [], 0)).2 = L.length := by
  refine snoc_ind (P := fun L => (L.foldl (fun (p : DataW Unit × Nat) t => (p.1.put (keyT t) (.lit (.int .i64 (p.2 : Int))), p.2 + 1)) (.map [], 0)).2 = L.length) rfl (fun L t h => ?_) L
  rw [List.foldl_append, List.length_append]
  show _ + 1 = _
  rw [h]; rfl
theorem numD_snoc (L : List Trm) (t : Trm) : numD (L ++ [t]) = (numD L).put (keyT t) (.lit (.int .i64 (L.length : Int))) := by
  have := num_len L
  unfold numD
  rw [List.foldl_append, ← this]
  rfl
theorem numD_map (L : List Trm) : Maps.IsMap (numD L) := by
  refine snoc_ind (P := fun L => Maps.IsMap (numD L)) Maps.isMap_empty (fun L t h => ?_) L
  rw [numD_snoc]; exact h.put _ _
end Tm
theorem num_has {s : Trm} (hs : WfT s) (L : List Trm) : (∀ t ∈ L, WfT t) → Maps.has (numD L) (keyT s) = decide (findT L s < L.length) := by
  refine snoc_ind (P := fun L => (∀ t ∈ L, WfT t) → Maps.has (numD L) (keyT s) = decide (findT L s < L.length)) (fun _ => rfl) (fun L t h hw => ?_) L
  have h1 := h (fun u hu => hw u (List.mem_append_left _ hu))
  have hwt := hw t (by simp)
  have hm : ∀ (M : List Trm), (findT M s < M.length) ↔ s ∈ M := fun M => ⟨fun c => List.mem_of_getElem? (find_get c), find_mem⟩
  rw [numD_snoc]
  by_cases e : keyT s = keyT t
  · obtain rfl := keyT_inj hs hwt e
    rw [Maps.has_put_same (numD_map L) keyT_is]
    exact (decide_eq_true ((hm _).2 (by simp))).symm
  · rw [Maps.has_put_other (fun c => e c), h1]
    have hne : s ≠ t := fun c => e (by rw [c])
    rw [decide_eq_decide, hm, hm]
    simp [hne]
theorem num_at {s : Trm} (hs : WfT s) (z : DataW Unit) (L : List Trm) : (∀ t ∈ L, WfT t) → L.Nodup → findT L s < L.length → (numD L).atKey (keyT s) z = .lit (.int .i64 (findT L s : Int)) := by
  refine snoc_ind (P := fun L => (∀ t ∈ L, WfT t) → L.Nodup → findT L s < L.length → (numD L).atKey (keyT s) z = .lit (.int .i64 (findT L s : Int))) (fun _ _ h => by simp at h) (fun L t h hw hn hf => ?_) L
  have hwt := hw t (by simp)
  have hn1 : L.Nodup := (List.nodup_append.1 hn).1
  rw [numD_snoc]
  by_cases e : keyT s = keyT t
  · obtain rfl := keyT_inj hs hwt e
    rw [e, Maps.atKey_put_same (numD_map L) keyT_is]
    rw [find_put hn (k := L.length) (by rw [List.getElem?_append_right (Nat.le_refl _), Nat.sub_self]; rfl)]
  · have hne : s ≠ t := fun c => e (by rw [c])
    have hm : s ∈ L := by
      have := List.mem_of_getElem? (find_get hf)
      simpa [hne] using this
    have h2 := find_mem hm
    rw [Maps.atKey_put_other (fun c => e c), h (fun u hu => hw u (List.mem_append_left _ hu)) hn1 h2]
    rw [find_put hn (k := findT L s) (by rw [List.getElem?_append_left h2]; exact find_get h2)]
theorem wf_all {L : List Trm} (h : OkT L) (hl : L.length ≤ 1000000) : ∀ t ∈ L, WfT t := fun t ht => by
  obtain ⟨k, hk⟩ := List.getElem?_of_mem ht
  have := (List.getElem?_eq_some_iff.1 hk).1
  exact fine_wf (h.fine k t hk) (by omega)
end Go.Proofs.Ythlefedljgmmfab
namespace Go.Proofs.Ythlefedljgmmfab
open Go.RowKit Go.Lib Go.Shelf Tm
set_option linter.unusedSimpArgs false
set_option linter.unusedVariables false

theorem disableO (w : World) : (callFunc 70 #[]).run Try.prog w = .ok (.value (.tuple #[])) w := run_call_mark0 Try.func70 (by kernel_rfl) (by kernel_rfl) (by kernel_rfl) .disable (by kernel_rfl) w
theorem enableO (w : World) : (callFunc 72 #[]).run Try.prog w = .ok (.value (.tuple #[])) w := run_call_mark0 Try.func72 (by kernel_rfl) (by kernel_rfl) (by kernel_rfl) .enable (by kernel_rfl) w
theorem acquireO (a : Addr) (w : World) : (callFunc 73 #[.pointer (some a)]).run Try.prog w = .ok (.value (.tuple #[])) w := run_call_marked Try.func73 (by kernel_rfl) (by kernel_rfl) (by kernel_rfl) .acquire (by kernel_rfl) a w
theorem releaseMergeO (a : Addr) (w : World) : (callFunc 75 #[.pointer (some a)]).run Try.prog w = .ok (.value (.tuple #[])) w := run_call_marked Try.func75 (by kernel_rfl) (by kernel_rfl) (by kernel_rfl) .releaseMerge (by kernel_rfl) a w

theorem loadO (a : Addr) (n : Int) (w : World) (hc : w.cell? a = some (.int .i64 n)) : Calls Try.prog 15 #[.pointer (some a)] w fun e w' => e = .returned (.int .i64 n) ∧ w' = w := by
  have hl := run_call_load (P := Try.prog) Try.func30 (by kernel_rfl) (by kernel_rfl) (by kernel_rfl) .i64 (by kernel_rfl) hc
  go_enter Try.func15, Try.ntmps15
  go_wp2
  go_ret
  exact ⟨rfl, rfl⟩
theorem storeO (a : Addr) (n : Int) (x : Value) (w : World) (hc : w.cell? a = some x) (hz : w.frozen? a = false) : Calls Try.prog 17 #[.pointer (some a), .int .i64 n] w fun e w' => e = .returned (.tuple #[]) ∧ w' = w.setCell a (.int .i64 n) := by
  have hst := run_call_store (P := Try.prog) Try.func31 (by kernel_rfl) (by kernel_rfl) (by kernel_rfl) (by kernel_rfl) (k := .i64) (y := n) hc hz
  go_enter Try.func17, Try.ntmps17
  go_wp2
  go_end0
  exact ⟨rfl, rfl⟩
theorem addO (a : Addr) (n : Int) (hn : 0 ≤ n ∧ n ≤ 1000000) (w : World) (hc : w.cell? a = some (.int .i64 n)) (hz : w.frozen? a = false) : Calls Try.prog 36 #[.pointer (some a), .int .i64 1] w fun e w' => e = .returned (.int .i64 (n + 1)) ∧ w' = w.setCell a (.int .i64 (n + 1)) := by
  have hw : IntKind.i64.wrap (n + 1) = n + 1 := wrE (by omega) (by omega)
  have hadd := run_call_add (P := Try.prog) Try.func56 (by kernel_rfl) (by kernel_rfl) (by kernel_rfl) .i64 (by kernel_rfl) (y := 1) (s := n + 1) hc hz (by simp [go_sem, hw])
  clear hw
  go_enter Try.func36, Try.ntmps36
  go_wp2
  go_ret
  exact ⟨rfl, rfl⟩
/-- The store of 'done', as a deferred call. -/
theorem doneO (a : Addr) (x : Value) (u : FrameMode) (w : World) (hc : w.cell? a = some x) (hz : w.frozen? a = false) :
    CallsD Try.prog 55 #[.pointer (some a), .bool true] u w fun e u' w' => u' = u ∧ (e = .returned (.tuple #[]) ∧ w' = w.drew.setCell a (.int .u32 1)) := by
  have hc' : w.drew.cell? a = some x := by go_simp
  have hz' : w.drew.frozen? a = false := by go_simp
  have hst := run_call_store (P := Try.prog) Try.func66 (by kernel_rfl) (by kernel_rfl) (by kernel_rfl) (by kernel_rfl) (k := .u32) (y := 1) hc' hz'
  go_enter_d Try.func55, Try.ntmps55
  go_wp2
  go_region_calls
  all_goals (go_end0; exact ⟨rfl, rfl⟩)
set_option maxRecDepth 100000 in
/-- The lock is let go, as a deferred call. -/
theorem unlockO (a : Addr) (u : FrameMode) (w : World) (hc : w.cell? a = some (.int .i32 1)) (hz : w.frozen? a = false) :
    CallsD Try.prog 54 #[.pointer (some a)] u w fun e u' w' => u' = u ∧ (e = .returned (.tuple #[]) ∧ w' = w.setCell a (.int .i32 0)) := by
  have hd := disableO
  have he := enableO
  have hr := releaseMergeO
  have hadd := run_call_add (P := Try.prog) Try.func76 (by kernel_rfl) (by kernel_rfl) (by kernel_rfl) .i32 (by kernel_rfl) (y := -1) (s := 0) hc hz (by simp [go_sem]; rfl)
  have hcv := run_convert_to_unsafe (P := Try.prog) (src := 109) (dst := 113) Try.underlying109 Try.underlying113 (by kernel_rfl) hc
  go_enter_d Try.func54, Try.ntmps54
  go_wp2
  go_end0
  go_wp2
  go_end0
  exact ⟨rfl, rfl⟩
set_option maxRecDepth 100000 in
/-- The free lock is taken. -/
theorem lockO (a : Addr) (w : World) (hc : w.cell? a = some (.int .i32 0)) (hz : w.frozen? a = false) :
    Calls Try.prog 53 #[.pointer (some a)] w fun e w' => e = .returned (.tuple #[]) ∧ w' = w.setCell a (.int .i32 1) := by
  have hd := disableO
  have he := enableO
  have ha := acquireO
  have hcas := run_call_cas_hit (P := Try.prog) Try.func71 (by kernel_rfl) (by kernel_rfl) (by kernel_rfl) .i32 (by kernel_rfl) (y := 1) hc hz
  have hc' : (w.setCell a (.int .i32 1)).cell? a = some (.int .i32 1) := World.cell?_setCell_same w a _ hc
  have hcv := run_convert_to_unsafe (P := Try.prog) (src := 109) (dst := 113) Try.underlying109 Try.underlying113 (by kernel_rfl) hc'
  go_enter Try.func53, Try.ntmps53
  go_wp2
  first | go_end0 | (simp only [Exit.inBlock, Exit.then]; refine bodyPost_ret (results_none rfl _ _ _) rfl ?_) | refine bodyPost_ret (results_none rfl _ _ _) rfl ?_
  go_wp2
  go_end0
  exact ⟨rfl, rfl⟩
set_option maxRecDepth 100000 in
set_option maxHeartbeats 1600000 in
/-- The slow road, not yet done, the lock free: whatever the function does, as long as it leaves the once alone. -/
theorem slowO (g off f : Nat) (cap : Array Value) (eg : ∀ args w, (callFunc f args).run Try.prog w = .ok (.enter f args) w) (Post : World → Prop) (w : World)
    (h0 : w.cell? ⟨g, off, none⟩ = some (.int .u32 0)) (h1 : w.cell? ⟨g, off + 1, none⟩ = some (.int .i32 0)) (f0 : w.frozen? ⟨g, off, none⟩ = false) (f1 : w.frozen? ⟨g, off + 1, none⟩ = false)
    (hcl : Calls Try.prog f cap (w.setCell ⟨g, off + 1, none⟩ (.int .i32 1)) fun e w' => e = .returned (.tuple #[]) ∧ (w'.cell? ⟨g, off, none⟩ = some (.int .u32 0) ∧ w'.frozen? ⟨g, off, none⟩ = false) ∧ (w'.cell? ⟨g, off + 1, none⟩ = some (.int .i32 1) ∧ w'.frozen? ⟨g, off + 1, none⟩ = false) ∧ Post w') :
    Calls Try.prog 33 #[.pointer (some ⟨g, off, none⟩), .func (.func f) #[] cap] w fun e w' => e = .returned (.tuple #[]) ∧ ∃ w1, Post w1 ∧ w' = (w1.drew.setCell ⟨g, off, none⟩ (.int .u32 1)).setCell ⟨g, off + 1, none⟩ (.int .i32 0) := by
  have hl := run_call_load (P := Try.prog) Try.func52 (by kernel_rfl) (by kernel_rfl) (by kernel_rfl) .u32 (by kernel_rfl) (w := w.setCell ⟨g, off + 1, none⟩ (.int .i32 1)) (a := ⟨g, off, none⟩) (x := 0) ((World.cell?_setCell_other _ ⟨g, off + 1, none⟩ ⟨g, off, none⟩ _ (by simp)).trans h0)
  have hnot : ∀ (x : Bool) (w : World), (Op.unary .not (.bool x)).run Try.prog w = .ok (.bool (!x)) w := fun _ _ => rfl
  have HCL := hideE hcl
  clear hcl
  go_enter_defers Try.func33, Try.ntmps33
  go_wp2_with (first | (go_at_call 53; refine (lockO ⟨g, off + 1, none⟩ _ (by go_simp) (by go_simp)).mono ?_; rintro e w' ⟨rfl, rfl⟩) | (go_at_call 32; go_in) | (go_at_fn f; refine HCL.out.mono ?_; rintro e w1 ⟨rfl, ⟨c0, z0⟩, ⟨c1, z1⟩, hP⟩))
  refine leaves_cons (f := 55) (args := #[.pointer (some ⟨g, off, none⟩), .bool true]) (by simp) (by simp [go_sem]) ?_
  refine (doneO ⟨g, off, none⟩ (.int .u32 0) .returning _ c0 z0).mono ?_
  rintro e u' w'' ⟨rfl, rfl, rfl⟩
  refine leaves_cons (f := 54) (args := #[.pointer (some ⟨g, off + 1, none⟩)]) (by simp [settle]) (by simp [go_sem]) ?_
  refine (unlockO ⟨g, off + 1, none⟩ _ _ ?_ (by simp [z1])).mono ?_
  · refine (World.cell?_setCell_other _ ⟨g, off, none⟩ ⟨g, off + 1, none⟩ _ (by simp)).trans ?_
    rw [World.cell?_drew]
    exact c1
  rintro e u' w'' ⟨rfl, rfl, rfl⟩
  simp [Leaves, settle, results, Try.results33]
  exact ⟨_, hP, rfl⟩
set_option maxRecDepth 100000 in
set_option maxHeartbeats 1600000 in
theorem doFirstO (g off f : Nat) (cap : Array Value) (eg : ∀ args w, (callFunc f args).run Try.prog w = .ok (.enter f args) w) (Post : World → Prop) (w : World)
    (h0 : w.cell? ⟨g, off, none⟩ = some (.int .u32 0)) (h1 : w.cell? ⟨g, off + 1, none⟩ = some (.int .i32 0)) (f0 : w.frozen? ⟨g, off, none⟩ = false) (f1 : w.frozen? ⟨g, off + 1, none⟩ = false)
    (hcl : Calls Try.prog f cap (w.setCell ⟨g, off + 1, none⟩ (.int .i32 1)) fun e w' => e = .returned (.tuple #[]) ∧ (w'.cell? ⟨g, off, none⟩ = some (.int .u32 0) ∧ w'.frozen? ⟨g, off, none⟩ = false) ∧ (w'.cell? ⟨g, off + 1, none⟩ = some (.int .i32 1) ∧ w'.frozen? ⟨g, off + 1, none⟩ = false) ∧ Post w') :
    Calls Try.prog 18 #[.pointer (some ⟨g, off, none⟩), .func (.func f) #[] cap] w fun e w' => e = .returned (.tuple #[]) ∧ ∃ w1, Post w1 ∧ w' = (w1.drew.setCell ⟨g, off, none⟩ (.int .u32 1)).setCell ⟨g, off + 1, none⟩ (.int .i32 0) := by
  have hl := run_call_load (P := Try.prog) Try.func52 (by kernel_rfl) (by kernel_rfl) (by kernel_rfl) .u32 (by kernel_rfl) h0
  have hnot : ∀ (x : Bool) (w : World), (Op.unary .not (.bool x)).run Try.prog w = .ok (.bool (!x)) w := fun _ _ => rfl
  have HS := hideE (slowO g off f cap eg Post w h0 h1 f0 f1 hcl)
  clear hcl
  go_enter Try.func18, Try.ntmps18
  go_wp2_with (first | (go_at_call 33; refine HS.out.mono ?_; rintro e w' ⟨rfl, hP⟩) | (go_at_call 32; go_in))
  go_end0
  exact ⟨rfl, hP⟩
/-- Done already: the function is not called. -/
theorem doDoneO (a : Addr) (fv : Value) (w : World) (h0 : w.cell? a = some (.int .u32 1)) :
    Calls Try.prog 18 #[.pointer (some a), fv] w fun e w' => e = .returned (.tuple #[]) ∧ w' = w := by
  have hl := run_call_load (P := Try.prog) Try.func52 (by kernel_rfl) (by kernel_rfl) (by kernel_rfl) .u32 (by kernel_rfl) h0
  have hnot : ∀ (x : Bool) (w : World), (Op.unary .not (.bool x)).run Try.prog w = .ok (.bool (!x)) w := fun _ _ => rfl
  go_enter Try.func18, Try.ntmps18
  go_wp2
  go_end0
  exact ⟨rfl, rfl⟩
end Go.Proofs.Ythlefedljgmmfab
namespace Go.Proofs.Ythlefedljgmmfab
open Go.RowKit Go.Lib Go.Shelf Tm
set_option linter.unusedSimpArgs false
set_option linter.unusedVariables false

def dagC (n : Nat) (v : Value) (dn : Int) (mp : Option Nat) : Array Value := #[.int .i64 (n : Int), v, .int .u32 dn, .int .i32 0, .int .u32 0, .map mp]
abbrev numsAt (W : World) (b n : Nat) (D : DataW Unit) : Prop := W.ownsMap Try.prog 36 (plainElem Try.prog 3) b n D
/-- The map of numbers: not made yet, or made. -/
def Found (W : World) (L : List Trm) (dn : Int) (mp : Option Nat) : Prop := (dn = 0 ∧ mp = none ∧ L = []) ∨ (dn = 1 ∧ ∃ b, mp = some b ∧ numsAt W b L.length (numD L))
/-- The code's terms, in the blocks told. -/
def CDag (W : World) (g : Nat) (L : List Trm) (fp : Nat → Prop) : Prop := ∃ (v : Value) (dn : Int) (mp : Option Nat), W.heap[g]? = some (.cells (dagC L.length v dn mp) 61 (0, 0)) ∧
  W.ownsRow 0 36 5 v L.length (trmsC L) ∧ Found W L dn mp ∧ ∀ k, fp k ↔ k = g ∨ v.ownBlock = some k ∨ mp = some k
theorem sixT {W : World} {b : Nat} {a0 a1 a2 a3 a4 a5 : Value} {t : TypeId} (h : W.heap[b]? = some (.cells #[a0, a1, a2, a3, a4, a5] t (0, 0))) :
    (W.cell? ⟨b, 0, none⟩ = some a0 ∧ W.cell? ⟨b, 1, none⟩ = some a1 ∧ W.cell? ⟨b, 2, none⟩ = some a2 ∧ W.cell? ⟨b, 3, none⟩ = some a3 ∧ W.cell? ⟨b, 4, none⟩ = some a4 ∧ W.cell? ⟨b, 5, none⟩ = some a5) ∧
    (W.frozen? ⟨b, 0, none⟩ = false ∧ W.frozen? ⟨b, 1, none⟩ = false ∧ W.frozen? ⟨b, 2, none⟩ = false ∧ W.frozen? ⟨b, 3, none⟩ = false ∧ W.frozen? ⟨b, 4, none⟩ = false ∧ W.frozen? ⟨b, 5, none⟩ = false) := by
  simp [World.cell?, World.frozen?, h]
theorem grownT_set (w : World) (p : Addr) (u : Value) : w.grownBy (w.setCell p u) (some p.block) :=
  ⟨rfl, rfl, rfl, by simp, fun k _ hk => Below.heap_setCell _ _ _ _ (fun e => hk (by rw [e]))⟩
theorem grownT_drew (w : World) (row : Option Nat) : w.grownBy w.drew row := ⟨rfl, rfl, rfl, Nat.le_refl _, fun _ _ _ => rfl⟩
theorem grownT_below {W W' : World} (h : Below W.heap.size W W') (row : Option Nat) : W.grownBy W' row := ⟨h.os, h.tape, h.output, h.size, fun k hk _ => h.block k hk⟩
theorem grownT_heap {W W' : World} {row : Option Nat} (h : W.grownBy W' row) {k : Nat} {o : Obj} (hk : W.heap[k]? = some o) (hr : some k ≠ row) : W'.heap[k]? = some o :=
  (h.block k (Array.getElem?_eq_some_iff.1 hk).1 hr).trans hk
theorem setT {W : World} {g k : Nat} {cs ds : Array Value} {t : TypeId} {v : Value} (h : W.heap[g]? = some (.cells cs t (0, 0))) (hd : cs.setIfInBounds k v = ds) : (W.setCell ⟨g, k, none⟩ v).heap[g]? = some (.cells ds t (0, 0)) := by
  rw [Go.heap_setCell_same W g k cs t v h, hd]
set_option maxHeartbeats 1000000 in
/-- The function that makes the map. -/
theorem nums1_any (pl g : Nat) (v : Value) (w : World) (hp : w.heap[pl]? = some (.cells #[ptrV g] 24 (0, 0)))
    (hg : w.heap[g]? = some (.cells #[.int .i64 0, v, .int .u32 0, .int .i32 1, .int .u32 0, .map none] 61 (0, 0))) :
    Calls Try.prog 35 #[.pointer (some ⟨pl, 0, none⟩)] w fun e w' => e = .returned (.tuple #[]) ∧ w' = (w.setCell ⟨g, 5, none⟩ (.map (some w.heap.size))).alloc (.map #[] 0) := by
  have hlt := (Array.getElem?_eq_some_iff.1 hg).1
  have hpt := (Array.getElem?_eq_some_iff.1 hp).1
  have c0 : w.cell? ⟨pl, 0, none⟩ = some (.pointer (some ⟨g, 0, none⟩)) := by simp [World.cell?, hp, ptrV]
  have hg1 : (w.alloc (.map #[] 0)).heap[g]? = some (.cells #[.int .i64 0, v, .int .u32 0, .int .i32 1, .int .u32 0, .map none] 61 (0, 0)) := (Below.heap_alloc _ _ _ hlt).trans hg
  obtain ⟨⟨d0, d1, d2, d3, d4, d5⟩, z0, z1, z2, z3, z4, z5⟩ := sixT hg1
  have hmm := @run_makeMap Try.prog
  clear hg hp hg1
  go_enter Try.func35, Try.ntmps35
  go_wp2
  go_end0
  exact ⟨rfl, rfl⟩
/-- The once of numbers, where it has not been done. -/
theorem numDo (pl g : Nat) (v : Value) (w : World) (hp : w.heap[pl]? = some (.cells #[ptrV g] 24 (0, 0))) (hg : w.heap[g]? = some (.cells (dagC 0 v 0 none) 61 (0, 0))) :
    Calls Try.prog 18 #[.pointer (some ⟨g, 2, none⟩), .func (.func 35) #[] #[.pointer (some ⟨pl, 0, none⟩)]] w fun e W => e = .returned (.tuple #[]) ∧
      (W.heap[pl]? = some (.cells #[ptrV g] 24 (0, 0)) ∧ W.heap[g]? = some (.cells (dagC 0 v 1 (some w.heap.size)) 61 (0, 0)) ∧ numsAt W w.heap.size 0 (.map []) ∧ w.grownBy W (some g)) := by
  have hne : pl ≠ g := fun e => by
    subst e; rw [hp] at hg; injection hg with hg; injection hg with _ h1; exact absurd h1 (by decide)
  have hlt := (Array.getElem?_eq_some_iff.1 hg).1
  have hpt := (Array.getElem?_eq_some_iff.1 hp).1
  have hg0 : w.heap[g]? = some (.cells #[.int .i64 0, v, .int .u32 0, .int .i32 0, .int .u32 0, .map none] 61 (0, 0)) := hg
  obtain ⟨⟨d0, d1, d2, d3, d4, d5⟩, z0, z1, z2, z3, z4, z5⟩ := sixT hg0
  have hg1 : (w.setCell ⟨g, 3, none⟩ (.int .i32 1)).heap[g]? = some (.cells #[.int .i64 0, v, .int .u32 0, .int .i32 1, .int .u32 0, .map none] 61 (0, 0)) := setT hg0 rfl
  have hp1 : (w.setCell ⟨g, 3, none⟩ (.int .i32 1)).heap[pl]? = some (.cells #[ptrV g] 24 (0, 0)) := (Below.heap_setCell _ _ _ _ hne).trans hp
  have hs1 : (w.setCell ⟨g, 3, none⟩ (.int .i32 1)).heap.size = w.heap.size := by simp
  have hgr1 := grownT_set w ⟨g, 3, none⟩ (.int .i32 1)
  obtain ⟨w1, hw1⟩ : ∃ x, w.setCell ⟨g, 3, none⟩ (.int .i32 1) = x := ⟨_, rfl⟩
  rw [hw1] at hg1 hp1 hs1 hgr1
  refine (doFirstO g 2 35 #[.pointer (some ⟨pl, 0, none⟩)] (enters_of Try.func35 (by kernel_rfl) rfl) (fun W => W.heap[pl]? = some (.cells #[ptrV g] 24 (0, 0)) ∧
      W.heap[g]? = some (.cells #[.int .i64 0, v, .int .u32 0, .int .i32 1, .int .u32 0, .map (some w.heap.size)] 61 (0, 0)) ∧ numsAt W w.heap.size 0 (.map []) ∧ w.grownBy W (some g)) w d2 d3 z2 z3 ?_).mono ?_
  · show Calls Try.prog _ _ (w.setCell ⟨g, 3, none⟩ (.int .i32 1)) _
    rw [hw1]
    refine (nums1_any pl g v w1 hp1 hg1).mono ?_
    rintro e w2 ⟨rfl, rfl⟩
    have hg2 : (w1.setCell ⟨g, 5, none⟩ (.map (some w1.heap.size))).heap[g]? = some (.cells #[.int .i64 0, v, .int .u32 0, .int .i32 1, .int .u32 0, .map (some w1.heap.size)] 61 (0, 0)) := setT hg1 rfl
    have hp2 : (w1.setCell ⟨g, 5, none⟩ (.map (some w1.heap.size))).heap[pl]? = some (.cells #[ptrV g] 24 (0, 0)) := (Below.heap_setCell _ _ _ _ hne).trans hp1
    have hgr2 := hgr1.trans (grownT_set w1 ⟨g, 5, none⟩ (.map (some w1.heap.size)))
    have hs2 : (w1.setCell ⟨g, 5, none⟩ (.map (some w1.heap.size))).heap.size = w.heap.size := by simp [hs1]
    rw [hs1] at hg2 hp2 hgr2 hs2 ⊢
    generalize w1.setCell ⟨g, 5, none⟩ (.map (some w.heap.size)) = w2 at hg2 hp2 hgr2 hs2 ⊢
    have hgr3 := hgr2.trans (World.grownBy_alloc w2 (.map #[] 0) (some g))
    have hg3 := grownT_heap (World.grownBy_alloc w2 (.map #[] 0) none) hg2 (by simp)
    have hp3 := grownT_heap (World.grownBy_alloc w2 (.map #[] 0) none) hp2 (by simp)
    have ho := World.ownsMap_made (H := Unit) w2 Try.prog 36 (plainElem Try.prog 3)
    rw [hs2] at ho
    obtain ⟨⟨e0, e1, e2, e3, e4, e5⟩, y0, y1, y2, y3, y4, y5⟩ := sixT hg3
    exact ⟨rfl, ⟨e2, y2⟩, ⟨e3, y3⟩, hp3, hg3, ho, hgr3⟩
  · rintro e W ⟨rfl, w1, ⟨q1, q2, q3, q4⟩, rfl⟩
    have q2' : w1.drew.heap[g]? = some (.cells #[.int .i64 0, v, .int .u32 0, .int .i32 1, .int .u32 0, .map (some w.heap.size)] 61 (0, 0)) := q2
    have a1 := setT (k := 2) (v := .int .u32 1) q2' rfl
    have a2 := setT (k := 3) (v := .int .i32 0) a1 rfl
    have hg1 := (q4.trans (grownT_drew w1 (some g))).trans (grownT_set w1.drew ⟨g, 2, none⟩ (.int .u32 1))
    have hg2 := hg1.trans (grownT_set (w1.drew.setCell ⟨g, 2, none⟩ (.int .u32 1)) ⟨g, 3, none⟩ (.int .i32 0))
    have hb : w.heap.size ≠ g := by have := (Array.getElem?_eq_some_iff.1 hg).1; omega
    refine ⟨rfl, ?_, a2, ?_, hg2⟩
    · exact (Below.heap_setCell _ _ _ _ hne).trans ((Below.heap_setCell _ _ _ _ hne).trans q1)
    · exact (q3.drew.setCell hb _).setCell hb _
set_option maxRecDepth 100000 in
set_option maxHeartbeats 1000000 in
theorem numbers_first {g : Nat} {v : Value} (w : World) (hg : w.heap[g]? = some (.cells (dagC 0 v 0 none) 61 (0, 0))) :
    Calls Try.prog 21 #[ptrV g] w fun e W => ∃ b, e = .returned (.map (some b)) ∧ w.heap.size ≤ b ∧ W.heap[g]? = some (.cells (dagC 0 v 1 (some b)) 61 (0, 0)) ∧ numsAt W b 0 (.map []) ∧ w.grownBy W (some g) := by
  have hmf : ∀ (fn : Fn) (first cap : Array Value) (w : World), (Instr.makeFunc fn first cap).run Try.prog w = .ok (.func fn first cap) w := fun _ _ _ _ => rfl
  have hlt := (Array.getElem?_eq_some_iff.1 hg).1
  have h1 := (Below.heap_alloc w (.cells #[ptrV g] 24) g hlt).trans hg
  have hp := heap_alloc_new w (.cells #[ptrV g] 24)
  have hD := numDo w.heap.size g v _ hp h1
  have hs : (w.alloc (.cells #[ptrV g] 24)).heap.size = w.heap.size + 1 := World.size_alloc _ _
  have hgr := World.grownBy_alloc w (.cells #[ptrV g] 24) (some g)
  rw [hs] at hD
  have HD := hideE hD
  have HG := hideE hgr
  clear hD h1 hp hs hgr hg
  simp only [ptrV] at HD HG ⊢
  go_enter Try.func21, Try.ntmps21
  go_wp2_with (go_at_call 18; refine HD.out.mono ?_; rintro e W ⟨rfl, k1, k2, k3, k4⟩; have p0 : W.cell? ⟨w.heap.size, 0, none⟩ = some (.pointer (some ⟨g, 0, none⟩)) := by { simp [World.cell?, k1] }; have p5 : W.cell? ⟨g, 5, none⟩ = some (.map (some (w.heap.size + 1))) := by { simp [World.cell?, k2, dagC] }; have K2 := hideE k2; have K3 := hideE k3; have K4 := hideE k4; clear k1 k2 k3 k4)
  go_ret
  exact ⟨_, rfl, by omega, K2.out, K3.out, HG.out.trans K4.out⟩
set_option maxRecDepth 100000 in
set_option maxHeartbeats 1000000 in
theorem numbers_done {g n b : Nat} {v : Value} (w : World) (hg : w.heap[g]? = some (.cells (dagC n v 1 (some b)) 61 (0, 0))) :
    Calls Try.prog 21 #[ptrV g] w fun e W => e = .returned (.map (some b)) ∧ Below w.heap.size w W := by
  have hmf : ∀ (fn : Fn) (first cap : Array Value) (w : World), (Instr.makeFunc fn first cap).run Try.prog w = .ok (.func fn first cap) w := fun _ _ _ _ => rfl
  have hlt := (Array.getElem?_eq_some_iff.1 hg).1
  have h1 := (Below.heap_alloc w (.cells #[ptrV g] 24) g hlt).trans hg
  obtain ⟨⟨e0, e1, e2, e3, e4, e5⟩, -⟩ := sixT h1
  have hD := doDoneO ⟨g, 2, none⟩ (.func (.func 35) #[] #[.pointer (some ⟨w.heap.size, 0, none⟩)]) _ e2
  have HD := hideE hD
  have HB := hideE ((Below.refl _ w).alloc (Nat.le_refl _) (.cells #[ptrV g] 24))
  clear hD h1 hg e0 e1 e2 e3 e4
  simp only [ptrV] at HD HB e5 ⊢
  go_enter Try.func21, Try.ntmps21
  go_wp2_with (go_at_call 18; refine HD.out.mono ?_; rintro e W ⟨rfl, rfl⟩)
  go_ret
  exact ⟨rfl, HB.out⟩
end Go.Proofs.Ythlefedljgmmfab
