/-
  What the walk of ImageBack stands on: words that are turned, boxes, a text of noughts.
-/
import Derived.Test.YtkfomhllaogplaaGS
import Derived.Test.YtkfomhllaogplaaGU
import Derived.Laws.BitsAllLaws
namespace Go.Proofs.Ytkfomhllaogplaa
open Go.RowKit El Go.Lib
open Classical
set_option linter.unusedSimpArgs false

def xorW (z : Nat) (l : List Nat) : List Nat := l.map fun n => n ^^^ z
theorem xorW_len (z : Nat) (l : List Nat) : (xorW z l).length = l.length := by simp [xorW]
theorem xor_lt {n z : Nat} (h1 : n < 4294967296) (h2 : z < 4294967296) : n ^^^ z < 4294967296 := Nat.xor_lt_two_pow (n := 32) h1 h2
theorem xorW_lt {z : Nat} {l : List Nat} (hz : z < 4294967296) (h : ∀ n ∈ l, n < 4294967296) : ∀ n ∈ xorW z l, n < 4294967296 := fun n hn => by
  obtain ⟨m, hm, rfl⟩ := List.mem_map.1 hn
  exact xor_lt (h m hm) hz
theorem xor_of {n z : Nat} (h1 : n < 4294967296) (h2 : z < 4294967296) : bits .xor .u32 (n : Int) (z : Int) = ((n ^^^ z : Nat) : Int) := u32_xor_nat _ _ h1 h2
/-- The first k words are turned. -/
def mixW (z : Nat) (l : List Nat) (k : Nat) : List Nat := xorW z (l.take k) ++ l.drop k
theorem mixW_zero (z : Nat) (l : List Nat) : mixW z l 0 = l := by simp [mixW, xorW]
theorem mixW_all (z : Nat) (l : List Nat) : mixW z l l.length = xorW z l := by simp [mixW]
theorem mixW_len (z : Nat) (l : List Nat) (k : Nat) : (mixW z l k).length = l.length := by simp [mixW, xorW]; omega
theorem mixW_at {z : Nat} {l : List Nat} {k t : Nat} (h : l[k]? = some t) : (mixW z l k)[k]? = some t := by
  have hk := (List.getElem?_eq_some_iff.1 h).1
  unfold mixW
  rw [List.getElem?_append_right (by rw [xorW_len, List.length_take]; omega), xorW_len, List.length_take, Nat.min_eq_left (by omega), Nat.sub_self, List.getElem?_drop]
  simpa using h
theorem mixW_set {z : Nat} {l : List Nat} {k t : Nat} (h : l[k]? = some t) : (mixW z l k).set k (t ^^^ z) = mixW z l (k + 1) := by
  have hk := (List.getElem?_eq_some_iff.1 h).1
  have hd : l.drop k = t :: l.drop (k + 1) := by
    rw [List.drop_eq_getElem_cons hk]
    congr 1
    have := List.getElem?_eq_getElem hk
    rw [h] at this; injection this with this; exact this.symm
  have ht : l.take (k + 1) = l.take k ++ [t] := by rw [List.take_add_one, h]; rfl
  unfold mixW
  rw [hd, ht, List.set_append, if_neg (by rw [xorW_len, List.length_take]; omega), xorW_len, List.length_take, Nat.min_eq_left (by omega), Nat.sub_self]
  simp [xorW]
theorem SlW.set {W : World} {g n c : Nat} {cur : Array Value} {t : TypeId} {xs : List Nat} (h : SlW W (.slice (some ⟨g, 0, none⟩) n c) xs) (hg : W.heap[g]? = some (.cells cur t (0, 0))) (k v : Nat) (hk : k < xs.length) : SlW (W.setCell ⟨g, k, none⟩ (.int .u32 (v : Int))) (.slice (some ⟨g, 0, none⟩) n c) (xs.set k v) := by
  rcases h with ⟨_, _, _, e⟩ | ⟨g', o, cap, e, hl, hg', hc⟩
  · subst e; simp at hk
  · injection e with e1 e2 e3
    injection e1 with e1
    injection e1 with e1 e4
    subst e1 e3 e4
    have hh : (W.setCell ⟨g, k, none⟩ (.int .u32 (v : Int))).heap[g]? = some (.cells (cur.setIfInBounds k (.int .u32 (v : Int))) t (0, 0)) := by simp [World.setCell, Array.getElem?_modify, hg]
    refine .inr ⟨g, 0, c, by rw [e2, List.length_set], by rw [List.length_set]; exact hl, (Array.getElem?_eq_some_iff.1 hh).1, fun j m hj => ?_⟩
    rw [Nat.zero_add, Lib.cell_of_heap hh]
    by_cases hjk : j = k
    · subst hjk
      rw [List.getElem?_set_self hk] at hj
      injection hj with hj
      subst hj
      have hkc : j < cur.size := by
        obtain ⟨m, hm⟩ : ∃ m, xs[j]? = some m := ⟨xs[j], List.getElem?_eq_getElem hk⟩
        have := hc j m hm
        rw [Nat.zero_add, Lib.cell_of_heap hg] at this
        exact (Array.getElem?_eq_some_iff.1 this).1
      rw [Array.getElem?_setIfInBounds_self_of_lt hkc]
    · rw [List.getElem?_set_ne (fun e => hjk e.symm)] at hj
      rw [Array.getElem?_setIfInBounds_ne (fun e => hjk e.symm)]
      have := hc j m hj
      rw [Nat.zero_add, Lib.cell_of_heap hg] at this
      exact this
structure EX (b : Nat) (Y : Prg) (u : Value) (W : World) : Prop where
  box : W.heap[b]? = some (.cells #[.int .u32 (Y.entry.toNat : Int), .int .u32 (Y.flags.toNat : Int), u] 25 (0, 0))
  s : SlS W u Y.segs
theorem EX.below {b : Nat} {Y : Prg} {u : Value} {W W' : World} (h : EX b Y u W) (hb : Below W.heap.size W W') : EX b Y u W' := ⟨keptN hb h.box, h.s.below hb⟩
theorem EX.new {Y : Prg} {u : Value} {W : World} (hs : SlS W u Y.segs) : EX W.heap.size Y u ((W.alloc (.cells Z3 25)).setRow W.heap.size #[.int .u32 (Y.entry.toNat : Int), .int .u32 (Y.flags.toNat : Int), u]) :=
  ⟨setRow_heap _ _ _ _ _ _ (heap_alloc_new W _), hs.below (below_setRowE ((Below.refl _ W).alloc (Nat.le_refl _) _) (Nat.le_refl _) _)⟩
/-- A text of noughts. -/
theorem makeN (N : Nat) (hN : N ≤ 4000) : ∃ M : Array Value, (∀ W : World, (Instr.makeSlice 58 (.int .i64 (N : Int)) (.int .i64 (N : Int))).run Try.prog W = .ok (.slice (some ⟨W.heap.size, 0, none⟩) N N) (W.alloc (.cells M 5))) ∧
    (∀ W : World, (convert 58 9 (.slice (some ⟨W.heap.size, 0, none⟩) N N)).run Try.prog (W.alloc (.cells M 5)) = .ok (.string ⟨(List.replicate N (0 : UInt8)).toArray⟩) (W.alloc (.cells M 5))) := by
  obtain ⟨i0, hi, hz0, hz1, hz2⟩ := info_partsE infoBy
  refine ⟨madeCells (Value.int .u8 0).cells (N * i0.size), fun W => ?_, fun W => ?_⟩
  · have h := run_make (P := Try.prog) W 58 5 i0 (.int .u8 0) Try.underlying58 hi hz0 .i64 .i64 (N : Int) (N : Int) (by omega) (by omega) (by rw [hz2]; omega) (by omega)
    simpa using h
  · have e : (madeCells (Value.int .u8 0).cells (N * i0.size)).toList = List.replicate N (.int .u8 0) := by
      rw [hz1, Nat.mul_one]; exact toList_madeCells_one _ _
    have := run_convert_bytes_back (P := Try.prog) (W.alloc (.cells (madeCells (Value.int .u8 0).cells (N * i0.size)) 5)) 58 9 5 ⟨W.heap.size, 0, none⟩ N (List.replicate N 0) Try.underlying58 Try.underlying5 Try.underlying9 (fun j hj => by
      rw [List.length_replicate] at hj
      have hc : (W.alloc (.cells (madeCells (Value.int .u8 0).cells (N * i0.size)) 5)).cell? ⟨W.heap.size, j, none⟩ = some (.int .u8 0) := by
        rw [Lib.cell_of_heap (heap_alloc_new W _), ← Array.getElem?_toList, e, List.getElem?_replicate, if_pos hj]
      have ha : (⟨W.heap.size, 0, none⟩ : Addr).add j = ⟨W.heap.size, j, none⟩ := by unfold Addr.add; split <;> simp_all
      rw [ha, hc, List.getElem_replicate]; rfl)
    rwa [List.length_replicate] at this
/-- What a program with turned words is. -/
theorem back_facts {X : Prg} (hf : ofE X = 0) (hfit : ∀ g ∈ X.segs, Fits g) (hd : ∀ g ∈ X.segs, g.data.length ≤ 200) (z : Nat) (hz : z < 4294967296) :
    ∃ (J : Img) (Z : Prg) (g : Seg), imgOf X = J ∧ J.ok ∧ 1 ≤ J.words.length ∧ J.words.length ≤ 50 ∧ wE X J.words.length = 0 ∧ wV X J.words = X ∧
      wE X (xorW z J.words).length = 0 ∧ wV X (xorW z J.words) = Z ∧ ofE Z = 0 ∧ (imgOf Z).base = J.base ∧ (imgOf Z).words = xorW z J.words ∧ (∀ g ∈ Z.segs, Fits g) ∧ (∀ g ∈ Z.segs, g.data.length ≤ 200) ∧
      chk X.segs = 0 ∧ chk Z.segs = 0 ∧ Z.segs.length = X.segs.length ∧ g.data.length = 4 * J.words.length ∧ g.addr = J.base ∧
      ∀ zs : List UInt8, Mm.puts (memOf Z.segs) (g.addr.toNat : Int) zs g.data.length = Mm.puts (memOf X.segs) (g.addr.toNat : Int) zs g.data.length := by
  obtain ⟨hc, g, hg, hent, hi⟩ := of_zero hf
  have hw : (imgOf X).words = words g.data := by rw [hi]
  have hlt : ∀ n ∈ (imgOf X).words, n < 4294967296 := by rw [hw]; exact words_lt _
  have hgd := hd g (List.mem_of_getElem? hg.get)
  have hlen : (imgOf X).words.length = g.data.length / 4 := by rw [hw, words_len]
  have hl4 := hg.len
  have hp := hg.pos
  have h1 := w_zero (x := X) (l := (imgOf X).words) hf rfl
  have hxl : (xorW z (imgOf X).words).length = (imgOf X).words.length := xorW_len _ _
  have h2 := w_zero (x := X) (l := xorW z (imgOf X).words) hf hxl
  have h3 := put_of (x := X) (l := xorW z (imgOf X).words) hf hxl (xorW_lt hz hlt)
  have hb : (bytesW (xorW z (imgOf X).words)).length = g.data.length := by rw [bytesW_len, hxl, hlen]; omega
  have hA : El.Alike X.segs (putW X (xorW z (imgOf X).words)).segs := setD_alike hg.get hb
  have hm : ∀ g' ∈ (putW X (xorW z (imgOf X).words)).segs, ∃ g'' ∈ X.segs, g''.data.length = g'.data.length ∧ g''.size = g'.size := fun g' hg' => by
    obtain ⟨i, hi'⟩ := List.getElem?_of_mem hg'
    obtain ⟨k, hk, _, e2, e3, _⟩ := hA.symm.get hi'
    exact ⟨k, List.mem_of_getElem? hk, e2, e3⟩
  have hok := img_ok (x := X) (fun g hg => Nat.le_trans (hd g hg) (by decide))
  refine ⟨imgOf X, putW X (xorW z (imgOf X).words), g, rfl, hok, by omega, by omega, h1.1, by rw [h1.2, put_self hf], h2.1, h2.2, h3.1, by rw [h3.2], by rw [h3.2], ?_, ?_, hc, hA.chk0 hc, hA.len, by omega, by rw [hi], fun zs => ?_⟩
  · intro g' hg'
    obtain ⟨k, hk, _, e3⟩ := hm g' hg'
    have := hfit k hk
    unfold Fits at this ⊢
    rw [← e3]; exact this
  · intro g' hg'
    obtain ⟨k, hk, e2, _⟩ := hm g' hg'
    rw [← e2]; exact hd k hk
  · exact nought_same hc (fun g hg => Nat.le_trans (hd g hg) (by decide)) hg.get hg.size hb
end Go.Proofs.Ytkfomhllaogplaa
