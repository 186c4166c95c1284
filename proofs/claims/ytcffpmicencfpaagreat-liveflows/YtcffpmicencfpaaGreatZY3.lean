/-
  A slice of instructions: in memory, and among a law's arguments.
  Contracts of the document's layer 9: one, Uses, Sets.
-/
import Derived.Test.YtcffpmicencfpaaGreatRows
import Derived.WalkKit
import Derived.ProofKit
import Derived.OpenShut
import Derived.Below
import Derived.Deep.Slices
import Derived.ChangeSame
import Derived.ChangeMaps
import Derived.Test.YtcffpmicencfpaaGreatZC1
import Derived.Test.YtcffpmicencfpaaGreatZY1
namespace Go.Proofs.YtcffpmicencfpaaGreat
open Go.ChangeShapes Go.WideShapes Go.ChangeAt Go.RowKit Go.Deep Ip Bl Go.Lib
set_option linter.unusedSimpArgs false
set_option linter.unusedVariables false

def csN (l : List Ins) : List Value := l.flatMap fun x => [.int .i64 x.op, .int .i64 x.rd, .int .i64 x.rs1, .int .i64 x.rs2, .int .i64 x.imm]
theorem csN_app (l r : List Ins) : csN (l ++ r) = csN l ++ csN r := by simp [csN]
theorem csN_len (l : List Ins) : (csN l).length = l.length * 5 := by
  induction l with
  | nil => rfl
  | cons p r ih => unfold csN at ih ⊢; rw [List.flatMap_cons, List.length_append, ih]; simp; omega
/-- A slice of instructions. -/
def SlN (W : World) (v : Value) (l : List Ins) : Prop :=
  (∃ p c, v = .slice p 0 c ∧ l = []) ∨ ∃ g o cap, v = .slice (some ⟨g, o, none⟩) l.length cap ∧ g < W.heap.size ∧ ∀ j, j < l.length * 5 → W.cell? ⟨g, o + j, none⟩ = (csN l)[j]?
theorem SlN.below {W W' : World} {v : Value} {l : List Ins} (h : SlN W v l) (hb : Below W.heap.size W W') : SlN W' v l := by
  rcases h with h | ⟨g, o, cap, rfl, hg, hc⟩
  · exact .inl h
  · exact .inr ⟨g, o, cap, rfl, Nat.lt_of_lt_of_le hg hb.size, fun j hj => by rw [(bcell hb).1 _ _ hg]; exact hc j hj⟩
theorem SlN.of_owns {W : World} {B : Nat} {v : Value} {l : List Ins} (h : W.ownsRow B 47 5 v l.length (csN l)) : SlN W v l := by
  rcases h.2 with ⟨rfl, hn⟩ | ⟨g, cap, cur, rfl, h2, h3, h4⟩
  · exact .inl ⟨_, _, rfl, List.eq_nil_of_length_eq_zero hn⟩
  · refine .inr ⟨g, 0, cap, rfl, (Array.getElem?_eq_some_iff.1 h3).1, fun j hj => ?_⟩
    rw [Nat.zero_add]; exact h.cellAt j hj
theorem csN_take (l : List Ins) (n : Nat) : csN (l.take n) = (csN l).take (n * 5) := by
  induction l generalizing n with
  | nil => simp [csN]
  | cons x l ih =>
    cases n with
    | zero => simp [csN]
    | succ n =>
      have := ih n
      unfold csN at this ⊢
      rw [List.take_succ_cons, List.flatMap_cons, List.flatMap_cons, this, show (n + 1) * 5 = [Value.int .i64 x.op, .int .i64 x.rd, .int .i64 x.rs1, .int .i64 x.rs2, .int .i64 x.imm].length + n * 5 by simp; omega, List.take_length_add_append]
theorem SlN.len {W : World} {v : Value} {l : List Ins} (h : SlN W v l) : ∃ p c, v = .slice p l.length c := by
  rcases h with ⟨p, c, rfl, rfl⟩ | ⟨g, o, cap, rfl, _⟩ <;> exact ⟨_, _, rfl⟩
theorem SlN.cut {W : World} {p : Option Addr} {n c : Nat} {l : List Ins} (h : SlN W (.slice p n c) l) (k : Nat) (hk : k ≤ n) : SlN W (.slice p k c) (l.take k) := by
  rcases h with ⟨p', c', e, rfl⟩ | ⟨g, o, cap, e, hg, hc⟩
  · injection e with e1 e2 e3
    subst e1 e2 e3
    obtain rfl : k = 0 := by omega
    exact .inl ⟨_, _, rfl, by simp⟩
  · injection e with e1 e2 e3
    subst e1 e2 e3
    have hl : (l.take k).length = k := by simp; omega
    refine .inr ⟨g, o, c, by rw [hl], hg, fun j hj => ?_⟩
    rw [hl] at hj
    rw [hc j (by omega), csN_take, List.getElem?_take_of_lt hj]
theorem csN_at (l : List Ins) (i : Nat) (x : Ins) (h : l[i]? = some x) : (csN l)[i * 5]? = some (.int .i64 x.op) ∧ (csN l)[i * 5 + 1]? = some (.int .i64 x.rd) ∧ (csN l)[i * 5 + 2]? = some (.int .i64 x.rs1) ∧ (csN l)[i * 5 + 3]? = some (.int .i64 x.rs2) ∧ (csN l)[i * 5 + 4]? = some (.int .i64 x.imm) := by
  induction l generalizing i with
  | nil => simp at h
  | cons a l ih =>
    have e : csN (a :: l) = [.int .i64 a.op, .int .i64 a.rd, .int .i64 a.rs1, .int .i64 a.rs2, .int .i64 a.imm] ++ csN l := by simp [csN]
    cases i with
    | zero => simp at h; subst h; rw [e]; simp
    | succ i =>
      have ih := ih i (by simpa using h)
      rw [e]
      have q : ∀ k, ([Value.int .i64 a.op, .int .i64 a.rd, .int .i64 a.rs1, .int .i64 a.rs2, .int .i64 a.imm] ++ csN l)[(i + 1) * 5 + k]? = (csN l)[i * 5 + k]? := fun k => by
        rw [List.getElem?_append_right (by simp; omega)]; congr 1; simp; omega
      have q0 := q 0
      simp only [Nat.add_zero] at q0
      rw [q0, q 1, q 2, q 3, q 4]; exact ih
theorem SlN.at {W : World} {g o : Nat} {l : List Ins} (hc : ∀ j, j < l.length * 5 → W.cell? ⟨g, o + j, none⟩ = (csN l)[j]?) (i : Nat) (x : Ins) (h : l[i]? = some x) :
    W.cell? ⟨g, o + i * 5, none⟩ = some (.int .i64 x.op) ∧ W.cell? ⟨g, o + i * 5 + 1, none⟩ = some (.int .i64 x.rd) ∧ W.cell? ⟨g, o + i * 5 + 2, none⟩ = some (.int .i64 x.rs1) ∧ W.cell? ⟨g, o + i * 5 + 3, none⟩ = some (.int .i64 x.rs2) ∧ W.cell? ⟨g, o + i * 5 + 4, none⟩ = some (.int .i64 x.imm) := by
  have hi : i < l.length := (List.getElem?_eq_some_iff.1 h).1
  obtain ⟨a, b, c, d, e⟩ := csN_at l i x h
  refine ⟨(hc _ (by omega)).trans a, ?_, ?_, ?_, ?_⟩
  · rw [Nat.add_assoc]; exact (hc _ (by omega)).trans b
  · rw [Nat.add_assoc]; exact (hc _ (by omega)).trans c
  · rw [Nat.add_assoc]; exact (hc _ (by omega)).trans d
  · rw [Nat.add_assoc]; exact (hc _ (by omega)).trans e
theorem cellN_spot {w : World} {a : Addr} {v : Value} (h : w.cell? a = some v) : a.spot = none := by
  unfold World.cell? at h
  split at h
  · split at h
    · cases h
    · rename_i hs; simpa using hs
  · cases h
theorem cellN_lt {w : World} {a : Addr} {v : Value} (h : w.cell? a = some v) : a.block < w.heap.size := by
  unfold World.cell? at h
  split at h
  · rename_i e; exact (Array.getElem?_eq_some_iff.1 e).1
  · cases h
theorem cellsNX : Tryz.prog.cellsOf 47 = 5 := by kernel_rfl
theorem cellsNI : Tryz.prog.cellsOf 3 = 1 := by kernel_rfl
theorem listN5 {α : Type} {cs : List α} (h : cs.length = 5) : ∃ c0 c1 c2 c3 c4, cs = [c0, c1, c2, c3, c4] := by
  match cs, h with
  | [c0, c1, c2, c3, c4], _ => exact ⟨c0, c1, c2, c3, c4, rfl⟩
section
variable {H : Type} {enc : TypeId × Value → H} {w : World} {base : Nat} {spare : Nat → Bool} {held : Bool}
theorem open_insN {fuel : Nat} {cs : List Value} {x : DataW H × List MemPlace} (h : DataW.trod enc Tryz.prog w base spare held fuel 47 cs = some x) :
    ∃ r : Ins, cs = [.int .i64 r.op, .int .i64 r.rd, .int .i64 r.rs1, .int .i64 r.rs2, .int .i64 r.imm] := by
  obtain ⟨xs, n, _, hx, hl, hlen, hg⟩ := DataW.trod_struct Tryz.underlying47 h
  obtain ⟨c0, c1, c2, c3, c4, rfl⟩ := listN5 (hl.trans cellsNX)
  have h0 := hg 0 _ rfl
  have h1 := hg 1 _ rfl
  have h2 := hg 2 _ rfl
  have h3 := hg 3 _ rfl
  have h4 := hg 4 _ rfl
  match xs, hlen with
  | [y0, y1, y2, y3, y4], _ =>
    simp [cellsNI] at h0 h1 h2 h3 h4
    obtain ⟨a0, e0, rfl, w0⟩ := DataW.trod_int Tryz.underlying3 h0
    obtain ⟨a1, e1, rfl, w1⟩ := DataW.trod_int Tryz.underlying3 h1
    obtain ⟨a2, e2, rfl, w2⟩ := DataW.trod_int Tryz.underlying3 h2
    obtain ⟨a3, e3, rfl, w3⟩ := DataW.trod_int Tryz.underlying3 h3
    obtain ⟨a4, e4, rfl, w4⟩ := DataW.trod_int Tryz.underlying3 h4
    simp at e0 e1 e2 e3 e4
    subst e0 e1 e2 e3 e4
    exact ⟨⟨a0, a1, a2, a3, a4⟩, rfl⟩
end
section
variable {H : Type} {enc : TypeId × Value → H}
theorem addrN_add (a : Addr) (i j : Nat) (h : a.spot = none) : (a.add i).add j = ⟨a.block, a.off + i + j, none⟩ := by
  obtain ⟨b, o, s⟩ := a
  simp only at h
  subst h
  unfold Addr.add
  by_cases hi : i = 0 <;> by_cases hj : j = 0 <;> simp [hi, hj]
theorem csN_flat (ops : Nat → Ins) (n j : Nat) (hj : j < n * 5) : (csN ((List.range n).map ops))[j]? = [Value.int .i64 (ops (j / 5)).op, .int .i64 (ops (j / 5)).rd, .int .i64 (ops (j / 5)).rs1, .int .i64 (ops (j / 5)).rs2, .int .i64 (ops (j / 5)).imm][j % 5]? := by
  have hx : ((List.range n).map ops)[j / 5]? = some (ops (j / 5)) := by rw [List.getElem?_map, List.getElem?_range (by omega)]; rfl
  obtain ⟨a, b, c, d, e⟩ := csN_at _ _ _ hx
  have hr : j % 5 = 0 ∨ j % 5 = 1 ∨ j % 5 = 2 ∨ j % 5 = 3 ∨ j % 5 = 4 := by omega
  rcases hr with h | h | h | h | h
  · rw [h, show j = j / 5 * 5 by omega, a]; simp [show j / 5 * 5 / 5 = j / 5 by omega]
  · rw [h, show j = j / 5 * 5 + 1 by omega, b]; simp [show (j / 5 * 5 + 1) / 5 = j / 5 by omega]
  · rw [h, show j = j / 5 * 5 + 2 by omega, c]; simp [show (j / 5 * 5 + 2) / 5 = j / 5 by omega]
  · rw [h, show j = j / 5 * 5 + 3 by omega, d]; simp [show (j / 5 * 5 + 3) / 5 = j / 5 by omega]
  · rw [h, show j = j / 5 * 5 + 4 by omega, e]; simp [show (j / 5 * 5 + 4) / 5 = j / 5 by omega]
set_option maxRecDepth 100000 in
/-- A slice of instructions, opened. -/
theorem open_instsN {W : World} {x : Value} {d : DataW H} {p : List MemPlace} (hv : Value.okWide Tryz.prog W .any 0 40 x) (h : DataW.Trod enc Tryz.prog W 0 (fun _ => true) true 40 x d p) :
    ∃ (p : Option Addr) (c : Nat) (l : List Ins), x = .slice p l.length c ∧ SlN W x l ∧ l.length ≤ c ∧ c ≤ 9223372036854775807 := by
  obtain ⟨a0, l0, p0, rfl⟩ := okWide_slice Tryz.underlying40 hv
  obtain ⟨fuel, hf⟩ := h
  rcases open_slice Tryz.underlying40 hf with ⟨h0, _⟩ | ⟨a, len, cap, m, n, D, Pl, h0, hb, hl, hm, hmm, _, hx⟩
  · simp [Value.cells] at h0
    obtain ⟨rfl, rfl, rfl⟩ := h0
    exact ⟨none, 0, [], rfl, .inl ⟨_, _, rfl, rfl⟩, Nat.le_refl _, by omega⟩
  · simp [Value.cells] at h0
    obtain ⟨rfl, rfl, rfl⟩ := h0
    simp only [if_true] at hmm
    subst hmm
    have each : ∀ i, i < l0 → ∃ r : Ins, ∀ j, j < 5 → W.cell? ((a.add (i * 5)).add j) = [Value.int .i64 r.op, .int .i64 r.rd, .int .i64 r.rs1, .int .i64 r.rs2, .int .i64 r.imm][j]? := by
      intro i hi
      obtain ⟨cs', h1, h2⟩ := hx i (by omega)
      rw [cellsNX] at h1
      obtain ⟨_, hlen, hcell⟩ := World.cells?_some h1
      obtain ⟨r, rfl⟩ := open_insN h2
      exact ⟨r, hcell⟩
    haveI : Inhabited Ins := ⟨⟨0, 0, 0, 0, 0⟩⟩
    obtain ⟨ops, hops⟩ := choose_lt each
    refine ⟨some a, m, (List.range l0).map ops, by simp, ?_, by simp; omega, by unfold maxLen at hm; omega⟩
    by_cases hz : l0 = 0
    · subst hz; exact .inl ⟨_, _, rfl, rfl⟩
    · have c0 := hops 0 (by omega) 0 (by omega)
      have hsp : a.spot = none := cellN_spot (w := W) (a := a) c0
      have hlt : a.block < W.heap.size := cellN_lt (w := W) (a := a) c0
      obtain ⟨b, o, s⟩ := a
      simp only at hsp hlt
      subst hsp
      refine .inr ⟨b, o, m, by simp, hlt, fun j hj => ?_⟩
      simp only [List.length_map, List.length_range] at hj
      rw [csN_flat ops l0 j hj, ← hops (j / 5) (by omega) (j % 5) (by omega), addrN_add _ _ _ rfl]
      show W.cell? ⟨b, o + j, none⟩ = W.cell? ⟨b, o + j / 5 * 5 + j % 5, none⟩
      rw [show o + j / 5 * 5 + j % 5 = o + j by omega]
theorem instsN_nil {W : World} {x : Value} {d : DataW H} {p : List MemPlace} (h : DataW.Trod enc Tryz.prog W 0 (fun _ => true) true 40 x d p) :
    ∀ n c, x = .slice none n c → c = 0 := by
  intro n c e
  subst e
  obtain ⟨fuel, hf⟩ := h
  rcases open_slice Tryz.underlying40 hf with ⟨h0, _⟩ | ⟨a, len, cap, m, n, D, Pl, h0, _⟩
  · simp [Value.cells] at h0; exact h0.2
  · simp [Value.cells] at h0
end
end Go.Proofs.YtcffpmicencfpaaGreat
namespace Go.Proofs.YtcffpmicencfpaaGreat
open Go.RowKit Go.Lib Ip Bl Lv
set_option linter.unusedSimpArgs false
set_option linter.unusedVariables false

theorem retw {a b : Int} (h : a = b) : Ending.returned (.int .u32 a) = .returned (.int .u32 b) := by rw [h]
theorem one_shl (d : Nat) (hd : d < 32) (h0 : d ≠ 0) : ((2 : Int) ^ d) % 4294967296 = ((oneB (d : Int)).toNat : Int) := by
  have h : ∀ d : Nat, d < 32 → d ≠ 0 → ((2 : Int) ^ d) % 4294967296 = ((oneB (d : Int)).toNat : Int) := by decide +kernel
  exact h d hd h0
set_option maxHeartbeats 1000000 in
theorem rone9_any (r : Int) (h0 : 0 ≤ r) (h1 : r < 32) (w : World) : Calls Tryz.prog 59 #[.int .i64 r] w fun e w' => e = .returned (.int .u32 ((oneB r).toNat : Int)) ∧ w' = w := by
  obtain ⟨d, rfl⟩ := Int.eq_ofNat_of_zero_le h0
  by_cases hz : d = 0
  · subst hz
    go_enter Tryz.func59, Tryz.ntmps59
    go_wp2_with fail
    go_ret
    exact ⟨rfl, rfl⟩
  · have hq : ((d : Int) == 0) = false := beq_eq_false_iff_ne.2 (by omega)
    have HS := hideE (one_shl d (by omega) hz)
    clear hz
    go_enter Tryz.func59, Tryz.ntmps59
    go_wp2_with fail
    go_ret
    exact ⟨retw HS.out, rfl⟩
theorem uses_no {x : Ins} (h : rightI x = false ∨ x.op = 3 ∨ x.op = 46) : ((usesB x).toNat : Int) = 4294967294 := by unfold usesB; rw [if_pos h]; rfl
theorem uses_call {x : Ins} (h : ¬ (rightI x = false ∨ x.op = 3 ∨ x.op = 46)) (h2 : x.op = 45) : ((usesB x).toNat : Int) = 261120 := by unfold usesB; rw [if_neg h, if_pos h2]; rfl
theorem uses_two {x : Ins} (h : ¬ (rightI x = false ∨ x.op = 3 ∨ x.op = 46)) (h2 : ¬ x.op = 45) : usesB x = oneB x.rs1 ||| oneB x.rs2 := by unfold usesB; rw [if_neg h, if_neg h2]
set_option maxHeartbeats 4000000 in
set_option maxRecDepth 100000 in
theorem ruses_any (x : Ins) (w : World) : Calls Tryz.prog 38 #[insV x] w fun e w' => e = .returned (.int .u32 ((usesB x).toNat : Int)) ∧ Below w.heap.size w w' := by
  obtain ⟨op, rd, rs1, rs2, imm⟩ := x
  have HB := hideE ((Below.refl _ w).alloc (Nat.le_refl _) (.cells #[.int .i64 op, .int .i64 rd, .int .i64 rs1, .int .i64 rs2, .int .i64 imm] 47))
  have hbx := inst_box w op rd rs1 rs2 imm
  obtain ⟨r, hr⟩ : ∃ r, right op rd rs1 rs2 imm = r := ⟨_, rfl⟩
  have HR := hideE (fun W => hr ▸ rright_any op rd rs1 rs2 imm W)
  have HRI : Hid (rightI ⟨op, rd, rs1, rs2, imm⟩ = r) := hr
  clear hr
  simp only [insV]
  cases r
  · have HU := hideE (uses_no (x := ⟨op, rd, rs1, rs2, imm⟩) (.inl HRI.out))
    go_enter Tryz.func38, Tryz.ntmps38
    go_wp2_with (go_at_call 32; refine (HR.out _).mono ?_; rintro e w1 ⟨rfl, hb1⟩; obtain ⟨c0, c1, c2, c3, c4⟩ := five (keptN hb1 hbx))
    go_ret
    exact ⟨retw HU.out.symm, HB.out.trans (hb1.mono (by simp))⟩
  · by_cases h3 : op = 3
    · have HU := hideE (uses_no (x := ⟨op, rd, rs1, rs2, imm⟩) (.inr (.inl h3)))
      subst h3
      go_enter Tryz.func38, Tryz.ntmps38
      go_wp2_with (go_at_call 32; refine (HR.out _).mono ?_; rintro e w1 ⟨rfl, hb1⟩; obtain ⟨c0, c1, c2, c3, c4⟩ := five (keptN hb1 hbx))
      go_ret
      exact ⟨retw HU.out.symm, HB.out.trans (hb1.mono (by simp))⟩
    · have q3 : (op == 3) = false := beq_eq_false_iff_ne.2 h3
      by_cases h46 : op = 46
      · have HU := hideE (uses_no (x := ⟨op, rd, rs1, rs2, imm⟩) (.inr (.inr h46)))
        subst h46
        go_enter Tryz.func38, Tryz.ntmps38
        go_wp2_with (go_at_call 32; refine (HR.out _).mono ?_; rintro e w1 ⟨rfl, hb1⟩; obtain ⟨c0, c1, c2, c3, c4⟩ := five (keptN hb1 hbx))
        go_ret
        exact ⟨retw HU.out.symm, HB.out.trans (hb1.mono (by simp))⟩
      · have q46 : (op == 46) = false := beq_eq_false_iff_ne.2 h46
        have hno : ¬ (rightI ⟨op, rd, rs1, rs2, imm⟩ = false ∨ op = 3 ∨ op = 46) := by
          rw [HRI.out]; rintro (e | e | e)
          · cases e
          · exact h3 e
          · exact h46 e
        by_cases h45 : op = 45
        · have HU := hideE (uses_call (x := ⟨op, rd, rs1, rs2, imm⟩) hno h45)
          clear hno
          subst h45
          go_enter Tryz.func38, Tryz.ntmps38
          go_wp2_with (go_at_call 32; refine (HR.out _).mono ?_; rintro e w1 ⟨rfl, hb1⟩; obtain ⟨c0, c1, c2, c3, c4⟩ := five (keptN hb1 hbx))
          go_ret
          exact ⟨retw HU.out.symm, HB.out.trans (hb1.mono (by simp))⟩
        · have q45 : (op == 45) = false := beq_eq_false_iff_ne.2 h45
          have HU := hideE (uses_two (x := ⟨op, rd, rs1, rs2, imm⟩) hno h45)
          have hg := right_regs HRI.out
          have H1 := hideE (fun W => rone9_any rs1 hg.2.2.1 hg.2.2.2.1 W)
          have H2 := hideE (fun W => rone9_any rs2 hg.2.2.2.2.1 hg.2.2.2.2.2 W)
          clear hno h3 h46 h45 hg
          go_enter Tryz.func38, Tryz.ntmps38
          go_upto_region 5 with (go_at_call 32; refine (HR.out _).mono ?_; rintro e w1 ⟨rfl, hb1⟩; obtain ⟨c0, c1, c2, c3, c4⟩ := five (keptN hb1 hbx))
          have HL := hideE (HB.out.trans (hb1.mono (by simp)))
          clear HB hb1 HR
          go_region_with (go_at_call 59; first | (refine (H1.out _).mono ?_; rintro e w2 ⟨rfl, rfl⟩) | (refine (H2.out _).mono ?_; rintro e w3 ⟨rfl, rfl⟩))
          all_goals
            go_wp2_with fail
            go_ret
            exact ⟨retw (by rw [Wd.or_, HU.out]), HL.out.trans (Below.refl _ _).drew⟩
theorem sets_no {x : Ins} (h : rightI x = false) : ((setsB x).toNat : Int) = 0 := by unfold setsB; rw [if_pos h]; rfl
theorem sets_call {x : Ins} (h : rightI x = true) (h2 : x.op = 45) : ((setsB x).toNat : Int) = 1024 := by unfold setsB; rw [if_neg (by rw [h]; simp), if_pos h2]; rfl
theorem sets_one {x : Ins} (h : rightI x = true) (h2 : ¬ x.op = 45) : setsB x = oneB x.rd := by unfold setsB; rw [if_neg (by rw [h]; simp), if_neg h2]
set_option maxHeartbeats 4000000 in
set_option maxRecDepth 100000 in
theorem rsets_any (x : Ins) (w : World) : Calls Tryz.prog 37 #[insV x] w fun e w' => e = .returned (.int .u32 ((setsB x).toNat : Int)) ∧ Below w.heap.size w w' := by
  obtain ⟨op, rd, rs1, rs2, imm⟩ := x
  have HB := hideE ((Below.refl _ w).alloc (Nat.le_refl _) (.cells #[.int .i64 op, .int .i64 rd, .int .i64 rs1, .int .i64 rs2, .int .i64 imm] 47))
  have hbx := inst_box w op rd rs1 rs2 imm
  obtain ⟨r, hr⟩ : ∃ r, right op rd rs1 rs2 imm = r := ⟨_, rfl⟩
  have HR := hideE (fun W => hr ▸ rright_any op rd rs1 rs2 imm W)
  have HRI : Hid (rightI ⟨op, rd, rs1, rs2, imm⟩ = r) := hr
  clear hr
  simp only [insV]
  cases r
  · have HU := hideE (sets_no (x := ⟨op, rd, rs1, rs2, imm⟩) HRI.out)
    go_enter Tryz.func37, Tryz.ntmps37
    go_wp2_with (go_at_call 32; refine (HR.out _).mono ?_; rintro e w1 ⟨rfl, hb1⟩; obtain ⟨c0, c1, c2, c3, c4⟩ := five (keptN hb1 hbx))
    go_ret
    exact ⟨retw HU.out.symm, HB.out.trans (hb1.mono (by simp))⟩
  · by_cases h45 : op = 45
    · have HU := hideE (sets_call (x := ⟨op, rd, rs1, rs2, imm⟩) HRI.out h45)
      subst h45
      go_enter Tryz.func37, Tryz.ntmps37
      go_wp2_with (go_at_call 32; refine (HR.out _).mono ?_; rintro e w1 ⟨rfl, hb1⟩; obtain ⟨c0, c1, c2, c3, c4⟩ := five (keptN hb1 hbx))
      go_ret
      exact ⟨retw HU.out.symm, HB.out.trans (hb1.mono (by simp))⟩
    · have q45 : (op == 45) = false := beq_eq_false_iff_ne.2 h45
      have HU := hideE (sets_one (x := ⟨op, rd, rs1, rs2, imm⟩) HRI.out h45)
      have hg := right_regs HRI.out
      have H1 := hideE (fun W => rone9_any rd hg.1 hg.2.1 W)
      clear h45 hg
      go_enter Tryz.func37, Tryz.ntmps37
      go_wp2_with (first
        | (go_at_call 32; refine (HR.out _).mono ?_; rintro e w1 ⟨rfl, hb1⟩; obtain ⟨c0, c1, c2, c3, c4⟩ := five (keptN hb1 hbx))
        | (go_at_call 59; refine (H1.out _).mono ?_; rintro e w2 ⟨rfl, rfl⟩))
      go_ret
      exact ⟨retw (by rw [HU.out]), HB.out.trans (hb1.mono (by simp))⟩
theorem drop_get {l : List Ins} {i : Nat} {x : Ins} (n : BitVec 32) (h : l[i]? = some x) : backB (l.drop i) n = stepB x (backB (l.drop (i + 1)) n) := by
  obtain ⟨hi, he⟩ := List.getElem?_eq_some_iff.1 h
  rw [List.drop_eq_getElem_cons hi, he]; rfl
theorem ruses_at (op rd rs1 rs2 imm : Int) (U : BitVec 32) (h : usesB ⟨op, rd, rs1, rs2, imm⟩ = U) (w : World) : Calls Tryz.prog 38 #[.agg #[.int .i64 op, .int .i64 rd, .int .i64 rs1, .int .i64 rs2, .int .i64 imm]] w fun e w' => e = .returned (.int .u32 (U.toNat : Int)) ∧ Below w.heap.size w w' := by
  subst h; exact ruses_any ⟨op, rd, rs1, rs2, imm⟩ w
theorem rsets_at (op rd rs1 rs2 imm : Int) (S : BitVec 32) (h : setsB ⟨op, rd, rs1, rs2, imm⟩ = S) (w : World) : Calls Tryz.prog 37 #[.agg #[.int .i64 op, .int .i64 rd, .int .i64 rs1, .int .i64 rs2, .int .i64 imm]] w fun e w' => e = .returned (.int .u32 (S.toNat : Int)) ∧ Below w.heap.size w w' := by
  subst h; exact rsets_any ⟨op, rd, rs1, rs2, imm⟩ w
theorem SlN.get {W : World} {p : Option Addr} {n c : Nat} {l : List Ins} (h : SlN W (.slice p n c) l) {i : Nat} {x : Ins} (hx : l[i]? = some x) : ∃ g o, p = some ⟨g, o, none⟩ := by
  rcases h with ⟨_, _, _, rfl⟩ | ⟨g, o, cap, e, hg, hc⟩
  · simp at hx
  · injection e with e1 e2 e3
    exact ⟨g, o, e1⟩
theorem SlN.five {W : World} {g o n c : Nat} {l : List Ins} (h : SlN W (.slice (some ⟨g, o, none⟩) n c) l) {i : Nat} {op rd rs1 rs2 imm : Int} (hx : l[i]? = some ⟨op, rd, rs1, rs2, imm⟩) : W.cell? ⟨g, o + i * 5, none⟩ = some (.int .i64 op) ∧ W.cell? ⟨g, o + i * 5 + 1, none⟩ = some (.int .i64 rd) ∧ W.cell? ⟨g, o + i * 5 + 2, none⟩ = some (.int .i64 rs1) ∧ W.cell? ⟨g, o + i * 5 + 3, none⟩ = some (.int .i64 rs2) ∧ W.cell? ⟨g, o + i * 5 + 4, none⟩ = some (.int .i64 imm) := by
  rcases h with ⟨_, _, _, rfl⟩ | ⟨g', o', cap, e, hg, hc⟩
  · simp at hx
  · injection e with e1 e2 e3
    injection e1 with e1
    injection e1 with e4 e5
    subst e4 e5
    exact SlN.at hc i _ hx
set_option maxHeartbeats 4000000 in
set_option maxRecDepth 100000 in
theorem rback_any (l : List Ins) (v : Value) (n : BitVec 32) (hl : l.length ≤ 1000000) (w : World) (hS : SlN w v l) :
    Calls Tryz.prog 23 #[v, .int .u32 (n.toNat : Int)] w fun e w' => e = .returned (.int .u32 ((backB l n).toNat : Int)) ∧ Below w.heap.size w w' := by
  obtain ⟨p, c, rfl⟩ := hS.len
  obtain ⟨m, hm⟩ : ∃ m, l.length = m := ⟨_, rfl⟩
  rw [hm] at hl hS ⊢
  have HS := hideE hS
  have HM := hideE hm
  have HEV := hideE (even_sub n)
  have hnl := n.isLt
  have hw1 : IntKind.i64.wrap ((m : Int) - 1) = (m : Int) - 1 := wrE (by omega) (by omega)
  clear hS hm
  go_enter Tryz.func23, Tryz.ntmps23
  go_upto_region 3 with fail
  go_loopg [5, 6] m (fun q s5 s6 W => ∃ (k : Nat) (z : Int), q = k ∧ k ≤ m ∧ s5 = .int .u32 ((backB (l.drop k) n).toNat : Int) ∧ s6 = .int .i64 z ∧ z = (k : Int) - 1 ∧ Below w.heap.size w W)
  case atStart =>
    refine ⟨m, _, rfl, Nat.le_refl _, ?_, rfl, rfl, Below.refl _ _⟩
    rw [List.drop_of_length_le (by rw [HM.out]; exact Nat.le_refl _), back_nil, HEV.out]
  case round =>
    clear hw1
    obtain ⟨k, z, rfl, hkm, rfl, rfl, hz, hT⟩ := hrel
    have HT := hideE hT
    clear hT
    cases gk with
    | zero =>
      have hk : ¬ ((0 : Int) ≤ z) := by omega
      have hk2 : z < 0 := by omega
      clear hz
      go_wp2_with fail
      go_ret
      exact ⟨retw rfl, HT.out⟩
    | succ q =>
      obtain rfl : z = (q : Int) := by omega
      have hk : (0 : Int) ≤ (q : Int) := by omega
      have hqm : (q : Int) < (m : Int) := by omega
      have hwq : IntKind.i64.wrap ((q : Int) - 1) = (q : Int) - 1 := wrE (by omega) (by omega)
      obtain ⟨x, hx⟩ : ∃ x, l[q]? = some x := ⟨l[q]'(by rw [HM.out]; omega), List.getElem?_eq_getElem (by rw [HM.out]; omega)⟩
      obtain ⟨g, o, rfl⟩ := HS.out.get hx
      have HD := hideE (drop_get n hx)
      obtain ⟨op, rd, rs1, rs2, imm⟩ := x
      have HX := hideE hx
      obtain ⟨c0, c1, c2, c3, c4⟩ := (HS.out.below HT.out).five hx
      obtain ⟨N, hN⟩ : ∃ N, backB (l.drop (q + 1)) n = N := ⟨_, rfl⟩
      obtain ⟨S, hSS⟩ : ∃ S, setsB ⟨op, rd, rs1, rs2, imm⟩ = S := ⟨_, rfl⟩
      obtain ⟨U, hU⟩ : ∃ U, usesB ⟨op, rd, rs1, rs2, imm⟩ = U := ⟨_, rfl⟩
      have HSt := hideE (fun W => rsets_at op rd rs1 rs2 imm S hSS W)
      have HUs := hideE (fun W => ruses_at op rd rs1 rs2 imm U hU W)
      obtain ⟨A, hA⟩ : ∃ A, N &&& S = A := ⟨_, rfl⟩
      have h1 : bits .and .u32 (N.toNat : Int) (S.toNat : Int) = (A.toNat : Int) := by rw [← hA]; exact Wd.and_ N S
      obtain ⟨B, hB⟩ : ∃ B, N - A = B := ⟨_, rfl⟩
      have h2 : ((N.toNat : Int) - (A.toNat : Int)) % 4294967296 = (B.toNat : Int) := by rw [← hB]; exact Wd.sub_ N A
      obtain ⟨C, hC⟩ : ∃ C, B ||| U = C := ⟨_, rfl⟩
      have h3 : bits .or .u32 (B.toNat : Int) (U.toNat : Int) = (C.toNat : Int) := by rw [← hC]; exact Wd.or_ B U
      have HC : Hid (C = backB (l.drop q) n) := by
        show C = _
        rw [HD.out, hN]
        unfold stepB
        rw [hSS, hU, ← hC, ← hB, ← hA, sub_and]
      rw [hN]
      clear hz hx hN hSS hU hA hB hC
      go_wp2_with (first
        | (go_at_call 37; refine (HSt.out _).mono ?_; rintro e w1 ⟨rfl, hb1⟩; obtain ⟨d0, d1, d2, d3, d4⟩ := (HS.out.below (HT.out.trans (hb1.mono HT.out.size))).five HX.out)
        | (go_at_call 38; refine (HUs.out _).mono ?_; rintro e w2 ⟨rfl, hb2⟩))
      go_roundg q
      case measure => omega
      case rel =>
        have hl1 := HT.out.trans (hb1.mono HT.out.size)
        exact ⟨q, _, rfl, by omega, by rw [← HC.out], rfl, by omega, hl1.trans (hb2.mono hl1.size)⟩
end Go.Proofs.YtcffpmicencfpaaGreat
