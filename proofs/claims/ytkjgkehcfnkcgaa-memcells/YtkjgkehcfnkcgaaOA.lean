/-
  A script (a slice of calls, structs of five cells) among a law's arguments: read, kept, and read again.
-/
import Derived.Test.YtkjgkehcfnkcgaaRows
import Derived.WalkKit
import Derived.ProofKit
import Derived.OpenShut
import Derived.Below
import Derived.Deep.Slices
import Derived.ChangeSame
import Derived.ChangeMaps
namespace Go.Proofs.Ytkjgkehcfnkcgaa
open Go.ChangeShapes Go.WideShapes Go.ChangeAt Go.RowKit Go.Deep

/-- A call of a script. -/
structure Rec where
  k : Int
  n : Int
  a : Int
  v : Int
  s : ByteArray
instance : Inhabited Rec := ⟨⟨0, 0, 0, 0, ⟨#[]⟩⟩⟩
/-- The five cells of a call, and what they are. -/
structure OpAt (w : World) (b o : Nat) (r : Rec) : Prop where
  c0 : w.cell? ⟨b, o, none⟩ = some (.int .i64 r.k)
  c1 : w.cell? ⟨b, o + 1, none⟩ = some (.int .i64 r.n)
  c2 : w.cell? ⟨b, o + 2, none⟩ = some (.int .u32 r.a)
  c3 : w.cell? ⟨b, o + 3, none⟩ = some (.int .u32 r.v)
  c4 : w.cell? ⟨b, o + 4, none⟩ = some (.string r.s)
  wk : (Lit.int .i64 r.k).wf = true
  wn : (Lit.int .i64 r.n).wf = true
  wa : (Lit.int .u32 r.a).wf = true
  wv : (Lit.int .u32 r.v).wf = true
  ws : r.s.size ≤ maxLen
/-- The value is a slice of n calls. -/
def Script (w : World) (x : Value) (n : Nat) (ops : Nat → Rec) : Prop :=
  ∃ ad cap, x = .slice ad n cap ∧ ∀ i, i < n → ∃ b o, ad = some ⟨b, o, none⟩ ∧ OpAt w b (o + i * 5) (ops i)

theorem cell_lt {w : World} {a : Addr} {v : Value} (h : w.cell? a = some v) : a.block < w.heap.size := by
  unfold World.cell? at h
  split at h
  · rename_i e; exact (Array.getElem?_eq_some_iff.1 e).1
  · cases h
theorem cell_spot {w : World} {a : Addr} {v : Value} (h : w.cell? a = some v) : a.spot = none := by
  unfold World.cell? at h
  split at h
  · split at h
    · cases h
    · rename_i hs; simpa using hs
  · cases h
theorem cell_below {w w' : World} (h : Below w.heap.size w w') {a : Addr} {v : Value} (hc : w.cell? a = some v) : w'.cell? a = some v := by
  have hl := cell_lt hc
  unfold World.cell? at hc ⊢
  rw [h.block _ hl]; exact hc
theorem OpAt.below {w w' : World} {b o : Nat} {r : Rec} (x : OpAt w b o r) (h : Below w.heap.size w w') : OpAt w' b o r :=
  ⟨cell_below h x.c0, cell_below h x.c1, cell_below h x.c2, cell_below h x.c3, cell_below h x.c4, x.wk, x.wn, x.wa, x.wv, x.ws⟩
theorem Script.below {w w' : World} {x : Value} {n : Nat} {ops : Nat → Rec} (s : Script w x n ops) (h : Below w.heap.size w w') : Script w' x n ops := by
  obtain ⟨ad, cap, e, f⟩ := s
  exact ⟨ad, cap, e, fun i hi => by obtain ⟨b, o, e, g⟩ := f i hi; exact ⟨b, o, e, g.below h⟩⟩

theorem cellsOp : Try.prog.cellsOf 29 = 5 := by kernel_rfl
theorem cellsI : Try.prog.cellsOf 3 = 1 := by kernel_rfl
theorem cellsU : Try.prog.cellsOf 27 = 1 := by kernel_rfl
theorem cellsS : Try.prog.cellsOf 9 = 1 := by kernel_rfl

section
variable {H : Type} {enc : TypeId × Value → H} {w : World} {base : Nat} {spare : Nat → Bool} {held : Bool}
theorem list5 {α : Type} {cs : List α} (h : cs.length = 5) : ∃ c0 c1 c2 c3 c4, cs = [c0, c1, c2, c3, c4] := by
  match cs, h with
  | [c0, c1, c2, c3, c4], _ => exact ⟨c0, c1, c2, c3, c4, rfl⟩
/-- One call, opened. -/
theorem open_op {fuel : Nat} {cs : List Value} {x : DataW H × List MemPlace} (h : DataW.trod enc Try.prog w base spare held fuel 29 cs = some x) :
    ∃ r : Rec, cs = [.int .i64 r.k, .int .i64 r.n, .int .u32 r.a, .int .u32 r.v, .string r.s] ∧ (Lit.int .i64 r.k).wf = true ∧ (Lit.int .i64 r.n).wf = true ∧ (Lit.int .u32 r.a).wf = true ∧ (Lit.int .u32 r.v).wf = true ∧ r.s.size ≤ maxLen ∧
      x = (.agg [.lit (.int .i64 r.k), .lit (.int .i64 r.n), .lit (.int .u32 r.a), .lit (.int .u32 r.v), .lit (.string r.s.data.toList)], []) := by
  obtain ⟨xs, n, _, hx, hl, hlen, hg⟩ := DataW.trod_struct Try.underlying29 h
  obtain ⟨c0, c1, c2, c3, c4, rfl⟩ := list5 (hl.trans cellsOp)
  have h0 := hg 0 _ rfl
  have h1 := hg 1 _ rfl
  have h2 := hg 2 _ rfl
  have h3 := hg 3 _ rfl
  have h4 := hg 4 _ rfl
  match xs, hlen with
  | [y0, y1, y2, y3, y4], _ =>
    simp [cellsI, cellsU, cellsS] at h0 h1 h2 h3 h4
    obtain ⟨a0, e0, rfl, w0⟩ := DataW.trod_int Try.underlying3 h0
    obtain ⟨a1, e1, rfl, w1⟩ := DataW.trod_int Try.underlying3 h1
    obtain ⟨a2, e2, rfl, w2⟩ := DataW.trod_int Try.underlying27 h2
    obtain ⟨a3, e3, rfl, w3⟩ := DataW.trod_int Try.underlying27 h3
    obtain ⟨s, e4, rfl, w4⟩ := DataW.trod_string Try.underlying9 h4
    simp at e0 e1 e2 e3 e4
    subst e0 e1 e2 e3 e4
    simp at hx
    exact ⟨⟨a0, a1, a2, a3, s⟩, rfl, w0, w1, w2, w3, w4, hx⟩
theorem shut_op (r : Rec) (wk : (Lit.int .i64 r.k).wf = true) (wn : (Lit.int .i64 r.n).wf = true) (wa : (Lit.int .u32 r.a).wf = true) (wv : (Lit.int .u32 r.v).wf = true) (ws : r.s.size ≤ maxLen) :
    ∃ n, DataW.trod enc Try.prog w base spare held n 29 [.int .i64 r.k, .int .i64 r.n, .int .u32 r.a, .int .u32 r.v, .string r.s] =
      some (.agg [.lit (.int .i64 r.k), .lit (.int .i64 r.n), .lit (.int .u32 r.a), .lit (.int .u32 r.v), .lit (.string r.s.data.toList)], []) := by
  have f : ∀ a : Int, (Lit.int .i64 a).wf = true → DataW.trod enc Try.prog w base spare held 1 3 [.int .i64 a] = some (.lit (.int .i64 a), []) := fun a h => by simp [DataW.trod, Try.underlying3, h]
  have g : ∀ a : Int, (Lit.int .u32 a).wf = true → DataW.trod enc Try.prog w base spare held 1 27 [.int .u32 a] = some (.lit (.int .u32 a), []) := fun a h => by simp [DataW.trod, Try.underlying27, h]
  have hs : DataW.trod enc Try.prog w base spare held 1 9 [.string r.s] = some (.lit (.string r.s.data.toList), []) := by simp [DataW.trod, Try.underlying9, ws]
  have ts := trod_struct_mk (enc := enc) (w := w) (base := base) (spare := spare) (held := held) (n := 1) (cs := [.int .i64 r.k, .int .i64 r.n, .int .u32 r.a, .int .u32 r.v, .string r.s]) (xs := [(.lit (.int .i64 r.k), []), (.lit (.int .i64 r.n), []), (.lit (.int .u32 r.a), []), (.lit (.int .u32 r.v), []), (.lit (.string r.s.data.toList), [])]) Try.underlying29 (by rw [cellsOp]; rfl)
    (by simp [cellsI, cellsU, cellsS, f, g, hs, wk, wn, wa, wv])
  exact ⟨_, by simpa using ts⟩
end

section
variable {H : Type} {enc : TypeId × Value → H}
theorem addr_add (a : Addr) (i j : Nat) (h : a.spot = none) : (a.add i).add j = ⟨a.block, a.off + i + j, none⟩ := by
  obtain ⟨b, o, s⟩ := a
  simp only at h
  subst h
  unfold Addr.add
  by_cases hi : i = 0 <;> by_cases hj : j = 0 <;> simp [hi, hj]
/-- A script, opened. -/
theorem open_script {W : World} {x : Value} {d : DataW H} {p : List MemPlace} (hv : Value.okWide Try.prog W .any 0 22 x) (h : DataW.Trod enc Try.prog W 0 (fun _ => true) true 22 x d p) :
    ∃ n ops, n ≤ maxLen ∧ Script W x n ops := by
  obtain ⟨a0, l0, p0, rfl⟩ := okWide_slice Try.underlying22 hv
  obtain ⟨fuel, hf⟩ := h
  rcases open_slice Try.underlying22 hf with ⟨h0, _⟩ | ⟨a, len, cap, m, n, D, Pl, h0, hb, hl, hm, hmm, _, hx⟩
  · simp [Value.cells] at h0
    obtain ⟨rfl, rfl, rfl⟩ := h0
    exact ⟨0, fun _ => default, Nat.zero_le _, none, 0, rfl, fun i hi => by omega⟩
  · simp [Value.cells] at h0
    obtain ⟨rfl, rfl, rfl⟩ := h0
    simp only [if_true] at hmm
    subst hmm
    have each : ∀ i, i < l0 → ∃ r : Rec, (∀ j, j < 5 → W.cell? ((a.add (i * 5)).add j) = [Value.int .i64 r.k, .int .i64 r.n, .int .u32 r.a, .int .u32 r.v, .string r.s][j]?) ∧
        (Lit.int .i64 r.k).wf = true ∧ (Lit.int .i64 r.n).wf = true ∧ (Lit.int .u32 r.a).wf = true ∧ (Lit.int .u32 r.v).wf = true ∧ r.s.size ≤ maxLen := by
      intro i hi
      obtain ⟨cs', h1, h2⟩ := hx i (by omega)
      rw [cellsOp] at h1
      obtain ⟨_, hlen, hcell⟩ := World.cells?_some h1
      obtain ⟨r, rfl, wk, wn, wa, wv, ws, _⟩ := open_op h2
      exact ⟨r, hcell, wk, wn, wa, wv, ws⟩
    obtain ⟨ops, hops⟩ := choose_lt each
    refine ⟨l0, ops, by omega, some a, _, rfl, fun i hi => ?_⟩
    have hsp : a.spot = none := cell_spot (w := W) (a := a) ((hops 0 (by omega)).1 0 (by omega))
    have c : ∀ j, j < 5 → W.cell? ⟨a.block, a.off + i * 5 + j, none⟩ = [Value.int .i64 (ops i).k, .int .i64 (ops i).n, .int .u32 (ops i).a, .int .u32 (ops i).v, .string (ops i).s][j]? := fun j hj => by
      rw [← addr_add a _ _ hsp]; exact (hops i hi).1 j hj
    obtain ⟨_, wk, wn, wa, wv, ws⟩ := hops i hi
    refine ⟨a.block, a.off, ?_, c 0 (by omega), c 1 (by omega), c 2 (by omega), c 3 (by omega), c 4 (by omega), wk, wn, wa, wv, ws⟩
    obtain ⟨b, o, s⟩ := a
    simp only at hsp
    subst hsp; rfl
theorem mapM_eq {α β : Type} {f g : α → Option β} : ∀ l : List α, (∀ i ∈ l, f i = g i) → l.mapM f = l.mapM g
  | [], _ => rfl
  | x :: r, h => by
    rw [List.mapM_cons, List.mapM_cons, h x List.mem_cons_self, mapM_eq r fun i hi => h i (List.mem_cons_of_mem _ hi)]
theorem cells_below {w w' : World} (h : Below w.heap.size w w') {base n : Nat} {a : Addr} {cs : List Value} (hc : w.cells? base a n = some cs) : w'.cells? base a n = some cs := by
  obtain ⟨hb, hl, hx⟩ := World.cells?_some hc
  rw [← hc]
  unfold World.cells?
  rw [if_pos hb, if_pos hb]
  refine mapM_eq _ fun i hi => ?_
  have hi' := List.mem_range.1 hi
  have hv := hx i hi'
  rw [List.getElem?_eq_getElem (by omega)] at hv
  rw [hv]; exact cell_below h hv
/-- A script, read again behind what has changed nothing old. -/
theorem again_script {W W' : World} {x : Value} {d : DataW H} {p : List MemPlace} (hb : Below W.heap.size W W') (hv : Value.okWide Try.prog W .any 0 22 x) (h : DataW.Trod enc Try.prog W 0 (fun _ => true) true 22 x d p)
    {sp : Nat → Bool} (hsp : ∀ b, b < W.heap.size → sp b = true) :
    DataW.Trod enc Try.prog W' 0 sp true 22 x d p := by
  obtain ⟨a0, l0, p0, rfl⟩ := okWide_slice Try.underlying22 hv
  obtain ⟨fuel, hf⟩ := h
  rcases open_slice Try.underlying22 hf with ⟨h0, h1⟩ | ⟨a, len, cap, m, n, D, Pl, h0, hb0, hl, hm, hmm, h1, hx⟩
  · simp [Value.cells] at h0
    obtain ⟨rfl, rfl, rfl⟩ := h0
    simp at h1
    obtain ⟨rfl, rfl⟩ := h1
    exact ⟨1, by simp [Value.cells, DataW.trod, Try.underlying22]⟩
  · simp [Value.cells] at h0
    obtain ⟨rfl, rfl, rfl⟩ := h0
    simp only [if_true] at hmm
    subst hmm
    simp only [Prod.mk.injEq] at h1
    obtain ⟨rfl, rfl⟩ := h1
    by_cases hc : m = 0
    · subst hc
      obtain rfl : l0 = 0 := by omega
      cases hs : sp a.block with
      | true =>
        exact shut_slice_whole_cells (enc := enc) (w := W') (held := true) (spare := sp) (base := 0) (a := a) Try.underlying22 hb0 hl hm hs D Pl fun i hi => by omega
      | false =>
        exact shut_slice_cells (enc := enc) (w := W') (held := true) (spare := sp) (base := 0) (a := a) (cap := 0) Try.underlying22 hb0 hl hm hs D Pl fun i hi => by omega
    · have hlt : a.block < W.heap.size := by
        obtain ⟨cs', h1, h2⟩ := hx 0 (by omega)
        obtain ⟨_, hlen, hcell⟩ := World.cells?_some h1
        obtain ⟨r, rfl, _⟩ := open_op h2
        have := hcell 0 (by rw [cellsOp]; omega)
        have := cell_lt this
        unfold Addr.add at this
        split at this <;> (try split at this) <;> simpa using this
      refine (shut_slice_whole_cells (enc := enc) (w := W') (held := true) (spare := sp) (base := 0) Try.underlying22 hb0 hl hm (hsp _ hlt) D Pl fun i hi => ?_)
      obtain ⟨cs', h1, h2⟩ := hx i hi
      obtain ⟨r, rfl, wk, wn, wa, wv, ws, e⟩ := open_op h2
      obtain ⟨k, hk⟩ := shut_op (enc := enc) (w := W') (base := 0) (spare := sp) (held := true) r wk wn wa wv ws
      exact ⟨_, k, cells_below hb h1, by rw [hk, e]⟩
end
end Go.Proofs.Ytkjgkehcfnkcgaa
