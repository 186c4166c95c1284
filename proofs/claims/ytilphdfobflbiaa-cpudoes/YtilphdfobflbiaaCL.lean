/-
  A run of a machine, plainly; what stays while it is made.
-/
import Derived.Test.YtilphdfobflbiaaCK
import Derived.Great.BuildSlice
import Derived.OwnWalk
import Derived.Deep.Onto
namespace Go.Proofs.Ytilphdfobflbiaa
open Go.RowKit Go.Maps Cp Ip Mm
set_option linter.unusedSimpArgs false

structure Res where
  c : Mach
  l : Cs
  calls : List Mach
  e : Int
  n : Nat
def pre (L : List Mach) (k : Nat) (r : Res) : Res := ⟨r.c, r.l, L ++ r.calls, r.e, k + r.n⟩
def runM : Nat → Mach → Cs → List (BitVec 32) → Res
  | 0, c, l, _ => ⟨c, l, [], 6, 0⟩
  | f + 1, c, l, zs =>
    if (stepM c l).e = 1 then
      (match zs with
      | [] => ⟨(stepM c l).c, (stepM c l).l, [(stepM c l).c], 1, 1⟩
      | a :: r => pre [(stepM c l).c] 1 (runM f (sx (stepM c l).c 10 a) (stepM c l).l r))
    else if (stepM c l).e = 0 then pre [] 1 (runM f (stepM c l).c (stepM c l).l zs)
    else ⟨(stepM c l).c, (stepM c l).l, [], (stepM c l).e, 1⟩
theorem pre_pre (L M : List Mach) (j k : Nat) (r : Res) : pre L j (pre M k r) = pre (L ++ M) (j + k) r := by
  unfold pre; simp [Nat.add_assoc]
theorem pre_nil (r : Res) : pre [] 0 r = r := by unfold pre; simp
theorem run_call (f : Nat) (c : Mach) (l : Cs) (a : BitVec 32) (r : List (BitVec 32)) (h : (stepM c l).e = 1) : runM (f + 1) c l (a :: r) = pre [(stepM c l).c] 1 (runM f (sx (stepM c l).c 10 a) (stepM c l).l r) := by
  conv => lhs; unfold runM
  rw [if_pos h]
theorem run_stop (f : Nat) (c : Mach) (l : Cs) (h : (stepM c l).e = 1) : runM (f + 1) c l [] = ⟨(stepM c l).c, (stepM c l).l, [(stepM c l).c], 1, 1⟩ := by
  conv => lhs; unfold runM
  rw [if_pos h]
theorem run_on (f : Nat) (c : Mach) (l : Cs) (zs : List (BitVec 32)) (h : (stepM c l).e = 0) : runM (f + 1) c l zs = pre [] 1 (runM f (stepM c l).c (stepM c l).l zs) := by
  conv => lhs; unfold runM
  rw [if_neg (by omega), if_pos h]
theorem run_end (f : Nat) (c : Mach) (l : Cs) (zs : List (BitVec 32)) (h : (stepM c l).e ≠ 1) (h0 : (stepM c l).e ≠ 0) : runM (f + 1) c l zs = ⟨(stepM c l).c, (stepM c l).l, [], (stepM c l).e, 1⟩ := by
  conv => lhs; unfold runM
  rw [if_neg h, if_neg h0]

def askAll (L : List Mach) : List Value := (L.map askL).flatten
theorem askAll_snoc (L : List Mach) (c : Mach) : askAll (L ++ [c]) = askAll L ++ askL c := by simp [askAll]
theorem askAll_len : ∀ L : List Mach, (askAll L).length = L.length * 8
  | [] => rfl
  | c :: r => by
    have : askAll (c :: r) = askL c ++ askAll r := rfl
    rw [this, List.length_append, askL_len, askAll_len r, List.length_cons]; omega

/-- While a run is made. -/
structure RunAt (w : World) (c : Mach) (pb bm : Nat) (l : Cs) (v : Value) (L : List Mach) (W : World) : Prop where
  box : BoxC W w.heap.size c
  res : BoxC W (w.heap.size + 1) nought
  mem : MemAt W pb bm l
  gro : w.grownBy W (some bm)
  own : W.ownsRow (w.heap.size + 2) 72 8 v L.length (askAll L)
theorem own_kept {W W' : World} {B : Nat} {t : TypeId} {k : Nat} {v : Value} {n : Nat} {xs : List Value} {g : Nat} (h : W.ownsRow B t k v n xs) (hg : W.grownBy W' (some g)) (hn : g < B) : W'.ownsRow B t k v n xs := by
  refine h.kept hg ?_
  cases e : v.ownBlock with
  | none => exact .inl rfl
  | some j => exact .inr (by have := (h.lt j e).1; simp; omega)
theorem grown_row {W : World} (g : Nat) (cs : Array Value) : W.grownBy (W.setRow g cs) (some g) := ⟨rfl, rfl, rfl, by simp, fun k _ hk => setRow_other W g k cs (by simpa using hk)⟩
theorem RunAt.step {w W W' : World} {c d : Mach} {pb bm : Nat} {l l' : Cs} {v : Value} {L : List Mach} (h : RunAt w c pb bm l v L W) (hb : bm < w.heap.size) (hp : pb < w.heap.size) (hm : MemAt W' pb bm l') (hg : W.grownBy W' (some bm)) : RunAt w d pb bm l' v L (W'.setRow w.heap.size (cells d)) := by
  have b : BoxC W' w.heap.size c := Box.grown h.box hg (by omega)
  have lo : Below w.heap.size W' (W'.setRow w.heap.size (cells d)) := below_row (Below.refl _ _) (Nat.le_refl _) _
  exact ⟨b.setRow d, (Box.grown h.res hg (by omega)).otherRow _ _ (by omega), hm.low lo hp hb, grown_then (grown_trans h.gro hg) lo, own_kept (own_kept h.own hg (by omega)) (grown_row _ _) (by omega)⟩
theorem RunAt.below {w W W' : World} {c : Mach} {pb bm : Nat} {l : Cs} {v : Value} {L : List Mach} (h : RunAt w c pb bm l v L W) (hb : Below W.heap.size W W') : RunAt w c pb bm l v L W' :=
  ⟨h.box.below hb, h.res.below hb, h.mem.below hb, grown_then h.gro (hb.mono h.gro.size), h.own.kept (row := none) ⟨hb.os, hb.tape, hb.output, hb.size, fun k hk _ => hb.block k hk⟩ (by cases v.ownBlock <;> simp)⟩
theorem RunAt.note {w W W' : World} {c d : Mach} {pb bm : Nat} {l : Cs} {v v' : Value} {L : List Mach} (h : RunAt w c pb bm l v L W) (hb : bm < w.heap.size) (hp : pb < w.heap.size) (hg : W.grownBy W' v.ownBlock) (ho : W'.ownsRow (w.heap.size + 2) 72 8 v' (L.length + 1) (askAll L ++ askL d)) : RunAt w c pb bm l v' (L ++ [d]) W' := by
  have lo : Below (w.heap.size + 2) W W' := ⟨hg.os, hg.tape, hg.output, hg.size, fun k hk => hg.block k (by have := h.res.lt; omega) (fun e => by have := (h.own.lt k e.symm).1; omega)⟩
  refine ⟨?_, ?_, h.mem.low lo (by omega) (by omega), grown_then h.gro (lo.mono (by omega)), ?_⟩
  · unfold BoxC Box; rw [lo.block _ (by omega)]; exact h.box
  · unfold BoxC Box; rw [lo.block _ (by omega)]; exact h.res
  · rw [askAll_snoc, List.length_append]; exact ho
theorem RunAt.reg {w W : World} {c : Mach} {pb bm : Nat} {l : Cs} {v : Value} {L : List Mach} (h : RunAt w c pb bm l v L W) (hb : bm < w.heap.size) (hp : pb < w.heap.size) (a : BitVec 32) : RunAt w (sx c 10 a) pb bm l v L (W.setCell ⟨w.heap.size, 10, none⟩ (.int .u32 (a.toNat : Int))) := by
  have lo : Below w.heap.size W (W.setCell ⟨w.heap.size, 10, none⟩ (.int .u32 (a.toNat : Int))) := below_cell1 (Below.refl _ _) (Nat.le_refl _) _ _
  exact ⟨h.box.setx 10 (by omega) a, h.res.other _ _ (by simp), h.mem.low lo hp hb, grown_then h.gro lo, own_kept h.own (grown_setCell W _ _ _) (by omega)⟩

/-- The answers that are left: a slice that came in. -/
def AnsAt (w : World) (v : Value) (zs : List (BitVec 32)) : Prop :=
  ∃ ad cap, v = .slice ad zs.length cap ∧ zs.length ≤ cap ∧ ∀ i (h : i < zs.length), ∃ b o, ad = some ⟨b, o, none⟩ ∧ w.cell? ⟨b, o + i, none⟩ = some (.int .u32 ((zs[i]).toNat : Int))
theorem ansAt_grown {w W : World} {pb bm : Nat} {l : Cs} {v : Value} {zs : List (BitVec 32)} (h : AnsAt w v zs) (hm : MemAt w pb bm l) (hg : w.grownBy W (some bm)) : AnsAt W v zs := by
  obtain ⟨ad, cap, e, hc, f⟩ := h
  refine ⟨ad, cap, e, hc, fun i hi => ?_⟩
  obtain ⟨b, o, e, q⟩ := f i hi
  refine ⟨b, o, e, ?_⟩
  obtain ⟨es, clock, hb, _⟩ := hm.own
  have hne : b ≠ bm := by
    rintro rfl
    unfold World.cell? at q; rw [hb] at q; cases q
  have hlt := block_lt_of_cell q
  rw [← q]
  unfold World.cell?
  rw [hg.block b hlt (by simpa using hne)]
theorem infoK2 : (Try.prog.info? 72).map (fun i => (i.zero, i.size, i.bytes)) = some (some (.agg zero8.toArray), 8, 32) := by kernel_rfl
theorem fillK (c : Mach) : Instr.fill (fun i => some (i * 8, 8)) ((Array.range (1 * 8)).map (fun x => ((Value.agg zero8.toArray).cells[x % (Value.agg zero8.toArray).cells.size]!))) [(0, .agg (askL c).toArray)] = some (askL c).toArray := by kernel_rfl
theorem results_row_tmp3 {P : Program} {fn : Func} {p u v x : Tmp} {ty : TypeId} (h : fn.results = #[.cell p ty, .tmp u, .tmp v, .tmp x]) (tmps : Array Value) (w : World) (g : Nat) (t : TypeId) (cs : Array Value) (fr : Nat × Nat) (d : TypeDesc)
    (hp : tmps.getD p undef = .pointer (some ⟨g, 0, none⟩)) (hg : w.heap[g]? = some (.cells cs t fr))
    (hu : P.underlying ty = some d) (hd : (match d with | .struct _ | .array _ _ => true | _ => false) = true) (hi : (P.info? ty).map (·.size) = some cs.size) :
    (results fn tmps).run P w = .ok (.tuple #[.agg cs, tmps.getD u undef, tmps.getD v undef, tmps.getD x undef]) w := by
  have hp' : tmps[p]?.getD undef = .pointer (some ⟨g, 0, none⟩) := by simpa using hp
  simp [results, h, hp', asAddr, run_loadVar_row w g t ty cs fr d hg hu hd hi]
end Go.Proofs.Ytilphdfobflbiaa
