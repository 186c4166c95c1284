/-
  Cells of a memory: a new list of all bytes that are not 0, by rising addresses.
  The statements' own test whether two lists of cells are the same: of two rows that hold the same it says yes.
  Copy and Bytes of a memory; what is written into the library's builder.
  Bytes of a memory.
  The calls whose answers the document fixes: they answer so.
  Plain facts on what was put, stored and read: byte by byte.
  Plain facts of numbers and bytes in a memory, and the contracts of Load and Bytes that hide what they answer behind a name.
  A script (a slice of calls, structs of five cells) among a law's arguments: read, kept, and read again.
-/
import Derived.Laws.OwnMore
import Derived.Laws.StructEq
import Derived.Shelf.SlMaps.Clone
import Derived.Test.YtmhgighiekncfaaRows
import Derived.WalkKit
import Derived.ProofKit
import Derived.OpenShut
import Derived.Below
import Derived.Deep.Slices
import Derived.ChangeSame
import Derived.ChangeMaps
import Derived.Test.YtmhgighiekncfaaZe
import Derived.Test.YtmhgighiekncfaaZf
import Derived.Test.YtmhgighiekncfaaZh
namespace Go.Proofs.Ytmhgighiekncfaa
open Go.RowKit Go.Maps Mm

namespace Mm
def cellsOf (l : Cs) : List Value := l.flatMap fun p => [.int .u32 p.1, .int .u8 p.2]
theorem cellsOf_len (l : Cs) : (cellsOf l).length = l.length * 2 := by
  induction l with
  | nil => rfl
  | cons p r ih => unfold cellsOf at ih ⊢; rw [List.flatMap_cons, List.length_append, ih]; simp; omega
theorem cellsOf_app (l r : Cs) : cellsOf (l ++ r) = cellsOf l ++ cellsOf r := by simp [cellsOf]
theorem cellsOf_snoc (l : Cs) (k : Nat) (h : k < l.length) : cellsOf (l.take (k + 1)) = cellsOf (l.take k) ++ [.int .u32 l[k].1, .int .u8 l[k].2] := by
  rw [List.take_succ_eq_append_getElem h, cellsOf_app]; rfl
end Mm

theorem infoC : (Try.prog.info? 42).map (fun i => (i.zero, i.size, i.bytes)) = some (some (.agg #[.int .u32 0, .int .u8 0]), 2, 8) := by kernel_rfl

theorem cell_pair_new (w : World) (x y : Value) (t : TypeId) : ∀ j u, [x, y][j]? = some u → (w.alloc (.cells #[x, y] t)).cell? ((⟨w.heap.size, 0, none⟩ : Addr).add j) = some u := by
  intro j u hj
  match j, hj with
  | 0, hj => simp at hj; subst hj; simp [Addr.add]
  | 1, hj => simp at hj; subst hj; simp [Addr.add]

theorem rows_apart {w : World} {b b' e e' s s' n n' : Nat} {v v' : Value} {xs xs' : List Value} (h : w.ownsRow b e s v n xs) (h' : w.ownsRow b' e' s' v' n' xs') (hne : e ≠ e') : v.ownBlock = none ∨ v.ownBlock ≠ v'.ownBlock := by
  rcases h.2 with ⟨rfl, _⟩ | ⟨g, cap, cur, rfl, _, hb, _⟩
  · exact .inl rfl
  · refine .inr fun e1 => ?_
    rcases h'.2 with ⟨rfl, _⟩ | ⟨g', cap', cur', rfl, _, hb', _⟩
    · simp [Value.ownBlock] at e1
    · obtain rfl : g = g' := by simpa [Value.ownBlock] using e1
      rw [hb] at hb'
      injection hb' with h1
      injection h1 with h2 h3
      exact hne h3

theorem owns_row_at {w : World} {base e g n cap : Nat} {l : Cs} (h : w.ownsRow base e 1 (.slice (some ⟨g, 0, none⟩) n cap) n (l.map fun p => U p.1)) (k : Nat) (hk : k < l.length) (hn : n = l.length) : w.cell? ⟨g, k, none⟩ = some (.int .u32 l[k].1) := by
  rw [h.cellAt k (by omega)]
  simp [hk]

set_option maxHeartbeats 2000000 in
set_option maxRecDepth 100000 in
theorem cells_any {pb bm : Nat} {l : Cs} (w : World) (h : MemAt w pb bm l) :
    Calls Try.prog 20 #[.pointer (some ⟨pb, 0, none⟩)] w fun e w' => ∃ v : Value, e = .returned v ∧ w'.ownsRow w.heap.size 42 2 v l.length (cellsOf l) ∧ Below w.heap.size w w' := by
  have c0 := h.cell
  have hL := h.rise.length
  obtain ⟨i0, hi, hz0, hz1, hz2⟩ := info_parts infoC
  go_enter Try.func20, Try.ntmps20
  go_wp2_with fail
  refine (keysOf_u (some bm) w).mono ?_
  rintro e w1 ⟨rfl, rfl⟩
  go_wp2_with fail
  refine (sorted_u w.heap.size bm l h.rise (w.alloc (.cells #[.map (some bm)] 51)) (by simp) (by simp) (h.own.alloc _)).mono ?_
  rintro e w2 ⟨sv, rfl, hs2, hb2⟩
  have hb0 : Below w.heap.size w w2 := ((Below.refl _ w).alloc (Nat.le_refl _) _).trans (hb2.mono (by simp))
  have hs0 : w2.ownsRow w.heap.size 27 1 sv l.length (l.map fun p => U p.1) := by
    refine ⟨hs2.1, ?_⟩
    rcases hs2.2 with h0 | ⟨g, cap, cur, h1, h2, h3⟩
    · exact .inl h0
    · exact .inr ⟨g, cap, cur, h1, by simp at h2; omega, h3⟩
  clear hs2 hb2
  rcases hs0.2 with ⟨rfl, hl0⟩ | ⟨gs, cap, cur, rfl, hbase, _⟩
  · obtain rfl : l = [] := List.eq_nil_of_length_eq_zero hl0
    go_wp2
    go_loopw [3, 13] (fun v u W => v = .slice none 0 0 ∧ u = .int .i64 0 ∧ W = w2) (fun _ _ _ => 0)
    case atStart => exact ⟨rfl, rfl, rfl⟩
    case round =>
      obtain ⟨rfl, rfl, rfl⟩ := hrel
      go_wp2
      go_ret
      exact ⟨_, rfl, World.ownsRow_nil _ _ _ _, hb0⟩
  · go_wp2
    go_loopw [3, 13] (fun v u W => ∃ k : Nat, u = .int .i64 k ∧ k ≤ l.length ∧ W.ownsRow w.heap.size 42 2 v k (cellsOf (l.take k)) ∧ W.ownsRow w.heap.size 27 1 (.slice (some ⟨gs, 0, none⟩) l.length cap) l.length (l.map fun p => U p.1) ∧ Below w.heap.size w W) (fun _ u _ => l.length - (intOf u).toNat)
    case atStart => exact ⟨0, rfl, Nat.zero_le _, World.ownsRow_nil _ _ _ _, hs0, hb0⟩
    case round =>
      clear hs0 hb0
      obtain ⟨k, rfl, hk, hrow, hs, hb⟩ := hrel
      have hm := h.below hb
      have cm := hm.cell
      by_cases hlt : k < l.length
      · have hck := owns_row_at hs k hlt rfl
        have hok := h.rise.ok l[k] (List.getElem_mem hlt)
        obtain ⟨p, hp⟩ : ∃ p, p = l[k] := ⟨_, rfl⟩
        have hlk := look_mem h.rise (p := p) (by rw [hp]; exact List.getElem_mem hlt)
        have HSN := hide (cellsOf_snoc l k hlt)
        rw [← hp] at hck hok HSN
        have HLK := hide hlk
        have ha0 := hok.1
        have ha1 := hok.2.1
        clear hp hlk
        go_wp2_with (first
          | (at_lookup; refine wpList_lookup_own_int _ rfl _ _ 51 rfl 27 5 .u8 lawU Try.underlying51 Try.underlying5 (zeroB _) bm _ _ rfl hm.own _ _ rfl (keyOf_int_mk Try.underlying27 (wf_u32 ⟨ha0, ha1⟩)) ?_; intro c hat hwc; rw [D_atKey] at hat; have hce := lit_u8 hat; subst hce)
          | (at_builtin; refine wpList_append_own _ rfl _ _ 36 rfl w.heap.size 42 i0 (.agg #[.int .u32 0, .int .u8 0]) 2 8 Try.underlying36 hi hz0 hz1 hz2 rfl (by decide) _ _ _ rfl (hrow.alloc _) ⟨wr.heap.size, 0, none⟩ 1 1 [.int .u32 p.1, .int .u8 (Mm.look l p.1)] rfl rfl (cell_pair_new _ _ _ _) (by simp [Value.oneCell']) (by unfold maxLen; omega) (by omega) (by have := hb.size; simp; omega) ?_; intro v' w3 hown' hgrow hnil')
          | go_in)
        have hb3 : Below w.heap.size w w3 := (hb.alloc hb.size _).grown hgrow (by have := hb.size; simp; omega) (fun j e => (hrow.lt j e).1)
        have hs3 := (hs.alloc (.cells #[.int .u32 p.1, .int .u8 (Mm.look l p.1)] 42)).kept hgrow (rows_apart hs hrow (by decide))
        exact ⟨⟨k + 1, by go_num, by omega, by rw [HSN.out, ← HLK.out]; exact hown', hs3, hb3⟩, by simp [intOf]; omega⟩
      · have e : k = l.length := by omega
        subst e
        go_wp2
        go_ret
        exact ⟨_, rfl, by rw [List.take_length] at hrow; exact hrow, hb⟩
end Go.Proofs.Ytmhgighiekncfaa
namespace Go.Proofs.Ytmhgighiekncfaa
open Go.RowKit Go.Maps Mm

theorem cellsOf_at (l : Cs) (k : Nat) (h : k < l.length) : (cellsOf l)[k * 2]? = some (.int .u32 l[k].1) ∧ (cellsOf l)[k * 2 + 1]? = some (.int .u8 l[k].2) := by
  induction l generalizing k with
  | nil => simp at h
  | cons p r ih =>
    have e : cellsOf (p :: r) = .int .u32 p.1 :: .int .u8 p.2 :: cellsOf r := by simp [cellsOf]
    rw [e]
    cases k with
    | zero => simp
    | succ k =>
      have := ih k (by simpa using h)
      rw [show (k + 1) * 2 = k * 2 + 1 + 1 by omega]
      simpa using this

set_option maxHeartbeats 1000000 in
theorem same_yes {base base' : Nat} {v v' : Value} {l : Cs} (w : World) (h : w.ownsRow base 42 2 v l.length (cellsOf l)) (h' : w.ownsRow base' 42 2 v' l.length (cellsOf l)) (hl : l.length ≤ 4294967296) :
    Calls Try.prog 21 #[v, v'] w fun e w' => e = .returned (.bool true) ∧ ∃ n, w' = w.drewN n := by
  rcases h.2 with ⟨rfl, h0⟩ | ⟨g, cap, cur, rfl, hb, _⟩
  · obtain rfl : l = [] := List.eq_nil_of_length_eq_zero h0
    rcases h'.2 with ⟨rfl, _⟩ | ⟨g', cap', cur', rfl, _⟩
    all_goals
      go_enter Try.func21, Try.ntmps21
      go_wp2
      go_loopw [5] (fun u W => u = .int .i64 0 ∧ W = w) (fun _ _ => 0)
      case atStart => exact ⟨rfl, rfl⟩
      case round =>
        obtain ⟨rfl, rfl⟩ := hrel
        go_wp2
        go_ret
        exact ⟨rfl, 0, rfl⟩
  · rcases h'.2 with ⟨rfl, h0⟩ | ⟨g', cap', cur', rfl, _⟩
    · obtain rfl : l = [] := List.eq_nil_of_length_eq_zero h0
      go_enter Try.func21, Try.ntmps21
      go_wp2
      go_loopw [5] (fun u W => u = .int .i64 0 ∧ W = w) (fun _ _ => 0)
      case atStart => exact ⟨rfl, rfl⟩
      case round =>
        obtain ⟨rfl, rfl⟩ := hrel
        go_wp2
        go_ret
        exact ⟨rfl, 0, rfl⟩
    · go_enter Try.func21, Try.ntmps21
      go_wp2
      go_loopw [5] (fun u W => ∃ k n : Nat, u = .int .i64 k ∧ k ≤ l.length ∧ W = w.drewN n) (fun u _ => l.length - (intOf u).toNat)
      case atStart => exact ⟨0, 0, rfl, Nat.zero_le _, rfl⟩
      case round =>
        obtain ⟨k, n, rfl, hk, hW⟩ := hrel
        by_cases hlt : k < l.length
        · obtain ⟨x, y⟩ := cellsOf_at l k hlt
          obtain ⟨p, hp⟩ : ∃ p, p = l[k] := ⟨_, rfl⟩
          rw [← hp] at x y
          have a0 : wr.cell? ⟨g, k * 2, none⟩ = some (.int .u32 p.1) := by rw [hW]; exact (h.cellAt (k * 2) (by omega)).trans x
          have a1 : wr.cell? ⟨g, k * 2 + 1, none⟩ = some (.int .u8 p.2) := by rw [hW]; exact (h.cellAt (k * 2 + 1) (by omega)).trans y
          have b0 : wr.cell? ⟨g', k * 2, none⟩ = some (.int .u32 p.1) := by rw [hW]; exact (h'.cellAt (k * 2) (by omega)).trans x
          have b1 : wr.cell? ⟨g', k * 2 + 1, none⟩ = some (.int .u8 p.2) := by rw [hW]; exact (h'.cellAt (k * 2 + 1) (by omega)).trans y
          have HW := hide hW
          clear hW x y hp h h'
          go_wp2
          go_quiet (fail)
          go_wp2
          exact ⟨⟨k + 1, n + nq, by go_num, by omega, by rw [HW.out, World.drewN_drewN]⟩, by simp [intOf]; omega⟩
        · have e : k = l.length := by omega
          subst e
          go_wp2
          go_ret
          exact ⟨rfl, n, rfl⟩
end Go.Proofs.Ytmhgighiekncfaa
namespace Go.Proofs.Ytmhgighiekncfaa
open Go.RowKit Go.Maps Go.Shelf Mm

set_option maxRecDepth 100000 in
set_option maxHeartbeats 2000000 in
theorem clone_u (b : Nat) (es : Array MapEntry) (clock : Nat) (w : World) (hb : w.heap[b]? = some (.map es clock)) :
    Calls Try.prog 30 #[.map (some b)] w fun e w' => e = .returned (.map (some w.heap.size)) ∧ w' = w.alloc (.map es clock) := by
  have hq := fun w => run_eql_map_nil_sl (P := Try.prog) w 51 _ _ (some b) Try.underlying51
  go_enter Try.func30, Try.ntmps30
  go_wp2
  rw [run_callFunc_extern Try.func35 (by kernel_rfl) (by kernel_rfl) (by kernel_rfl) (e := Extern.MapsClone.clone) (by kernel_rfl), run_maps_clone_sl w 51 hb]
  simp only [Result.andThen]
  rw [Oper.upon_value]
  go_wp2
  rw [run_typeAssert_map_sl _ 51 20 _ _ _ Try.underlying51]
  simp only [Result.andThen]
  rw [Oper.upon_value]
  go_wp2
  go_ret
  exact ⟨rfl, rfl⟩

theorem copy_any {pb bm : Nat} {l : Cs} (w : World) (h : MemAt w pb bm l) :
    Calls Try.prog 19 #[.pointer (some ⟨pb, 0, none⟩)] w fun e w' => e = .returned (.pointer (some ⟨w.heap.size + 1, 0, none⟩)) ∧ MemAt w' (w.heap.size + 1) w.heap.size l ∧ Below w.heap.size w w' ∧ w'.heap.size = w.heap.size + 2 := by
  have c0 := h.cell
  obtain ⟨es, clock, hb, F, hs, hD⟩ := h.own
  go_enter Try.func19, Try.ntmps19
  go_wp2_with fail
  refine (clone_u bm es clock w hb).mono ?_
  rintro e w1 ⟨rfl, rfl⟩
  go_wp2
  go_ret
  refine ⟨rfl, ⟨?_, h.rise, ?_⟩, ((Below.refl _ _).alloc (Nat.le_refl _) _).alloc (by simp) _, by simp⟩
  · have := World.alloc_heap_new (w.alloc (.map es clock)) (.cells #[.map (some w.heap.size)] 53)
    simpa using this
  · have : (w.alloc (.map es clock)).ownsMap Try.prog 27 (plainElem (H := Unit) Try.prog 5) w.heap.size l.length (D l) := ⟨es, clock, (MapKept.heap_alloc w _).1, F, hs, hD⟩
    exact this.alloc _

/-! ### the builder -/
def wbRen : Go.Shelf.Ren := ⟨fun | 167 => 28 | 240 => 33 | 276 => 39 | n => n, fun | 70 => 57 | 0 => 0 | 4 => 4 | 9 => 9 | 20 => 20 | 72 => 59 | 37 => 47 | 164 => 75 | 5 => 5 | 75 => 62 | 80 => 64 | n => n, fun | n => n⟩
theorem wbLays : Lays.n167 Try.prog wbRen := {
  mixed := by kernel_rfl
  f167 := Try.func28.trans (congrArg some (by kernel_rfl))
  f240 := Try.func33.trans (congrArg some (by kernel_rfl))
  f276 := Try.func39.trans (congrArg some (by kernel_rfl))
  t0 := Try.underlying0
  a0 := Try.isAgg0
  z0 := Try.sizeOf0
  v0 := Try.zeroValue0
  t4 := Try.underlying4
  a4 := Try.isAgg4
  z4 := Try.sizeOf4
  v4 := Try.zeroValue4
  t5 := Try.underlying5
  a5 := Try.isAgg5
  z5 := Try.sizeOf5
  v5 := Try.zeroValue5
  t9 := Try.underlying9
  a9 := Try.isAgg9
  z9 := Try.sizeOf9
  v9 := Try.zeroValue9
  t20 := Try.underlying20
  a20 := Try.isAgg20
  z20 := Try.sizeOf20
  v20 := Try.zeroValue20
  t37 := Try.underlying47
  a37 := Try.isAgg47
  z37 := Try.sizeOf47
  v37 := Try.zeroValue47
  t70 := Try.underlying57
  a70 := Try.isAgg57
  z70 := Try.sizeOf57
  v70 := Try.zeroValue57
  t72 := Try.underlying59
  a72 := Try.isAgg59
  z72 := Try.sizeOf59
  v72 := Try.zeroValue59
  t75 := Try.underlying62
  a75 := Try.isAgg62
  z75 := Try.sizeOf62
  v75 := Try.zeroValue62
  t164 := Try.underlying75
  a164 := Try.isAgg75
  z164 := Try.sizeOf75
  v164 := Try.zeroValue75 }
theorem wbExtra : Builder.Extra Try.prog wbRen := {
  sizeBuilder := by kernel_rfl
  liesBuilder := by kernel_rfl
  t5 := Try.underlying5
  a5 := Try.isAgg5
  z5 := Try.sizeOf5
  v5 := Try.zeroValue5
  infoByte := by kernel_rfl
  cellsByte := by kernel_rfl
  sizeByte := by kernel_rfl
  neB5 := by decide }
theorem write_u (B b : Nat) (bs : List Value) (c : Int) (w : World) (h : Lib.IsBuilder 59 5 B b bs w) (hlen : bs.length + 1 ≤ 140737488355328) (hBw : B ≤ w.heap.size) :
    Calls Try.prog 28 #[.pointer (some ⟨b, 0, none⟩), .int .u8 c] w fun e w' => e = .returned .nilIface ∧ (Lib.BuilderAt 59 5 B b (.pointer (some ⟨b, 0, none⟩)) (bs ++ [.int .u8 c]) w' ∧ Below B w w') :=
  Any.Builder_WriteByte wbLays wbExtra B b bs c w h hlen hBw
end Go.Proofs.Ytmhgighiekncfaa
namespace Go.Proofs.Ytmhgighiekncfaa
open Go.RowKit Go.Maps Go.Shelf Mm

namespace Mm
def byteAt (l : Cs) (a : Int) (i : Nat) : UInt8 := UInt8.ofNat (look l ((a + i) % 4294967296)).toNat
def bytesOf (l : Cs) (a : Int) (n : Nat) : List UInt8 := (List.range n).map (byteAt l a)
theorem bytesOf_succ (l : Cs) (a : Int) (n : Nat) : bytesOf l a (n + 1) = bytesOf l a n ++ [byteAt l a n] := by simp [bytesOf, List.range_succ]
theorem bytesOf_len (l : Cs) (a : Int) (n : Nat) : (bytesOf l a n).length = n := by simp [bytesOf]
theorem byteAt_val {l : Cs} (h : Rise l) (a : Int) (i : Nat) : ((byteAt l a i).toNat : Int) = look l ((a + i) % 4294967296) := by
  have := look_range h ((a + i) % 4294967296)
  unfold byteAt
  rw [UInt8.toNat_ofNat']
  omega
theorem bytesOf_cells {l : Cs} (h : Rise l) (a : Int) (n : Nat) : Lib.byteCells (bytesOf l a n) ++ [.int .u8 (look l ((a + n) % 4294967296))] = Lib.byteCells (bytesOf l a (n + 1)) := by
  rw [bytesOf_succ, Lib.byteCells_append, ← byteAt_val h]; rfl
end Mm

theorem bytes_none {pb : Nat} {a n : Int} (w : World) (hn : n < 1) :
    Calls Try.prog 17 #[.pointer (some ⟨pb, 0, none⟩), .int .u32 a, .int .i64 n] w fun e w' => e = .returned (.string ⟨#[]⟩) ∧ w' = w := by
  have h1 : decide (n < 1) = true := decide_eq_true hn
  go_enter Try.func17, Try.ntmps17
  go_wp2
  go_ret
  exact ⟨rfl, rfl⟩

set_option maxHeartbeats 2000000 in
set_option maxRecDepth 100000 in
theorem bytes_some {pb bm : Nat} {l : Cs} {a : Int} (n : Nat) (w : World) (h : MemAt w pb bm l) (ha : 0 ≤ a ∧ a < 4294967296) (hn1 : 1 ≤ n) (hn2 : n ≤ 65536) :
    Calls Try.prog 17 #[.pointer (some ⟨pb, 0, none⟩), .int .u32 a, .int .i64 n] w fun e w' => e = .returned (.string ⟨(bytesOf l a n).toArray⟩) ∧ Below w.heap.size w w' := by
  obtain ⟨ha0, ha1⟩ := ha
  have hnew : (w.alloc (.cells #[.pointer none, .slice none 0 0] 59)).heap[w.heap.size]? = some (.cells #[.pointer none, .slice none 0 0] 59 (0, 0)) := World.alloc_heap_new w _
  have hc := Try.Builder_Grow_fresh w.heap.size w.heap.size n _ (Nat.le_refl _) hnew (by simp) (by omega)
  have HC := hide hc
  clear hc hnew
  have h1 : decide ((n : Int) < 1) = false := decide_eq_false (by omega)
  have h2 : decide ((2147483647 : Int) < n) = false := decide_eq_false (by omega)
  go_enter Try.func17, Try.ntmps17
  go_wp2_with fail
  refine HC.out.mono ?_
  rintro e w1 ⟨rfl, hB1, hb1⟩
  have hb1' : Below w.heap.size w w1 := ((Below.refl _ w).alloc (Nat.le_refl _) _).trans hb1
  go_wp2
  go_loopw [19] (fun u W => ∃ k : Nat, u = .int .u32 k ∧ k ≤ n ∧ Lib.IsBuilder 59 5 w.heap.size w.heap.size (Lib.byteCells (bytesOf l a k)) W ∧ Below w.heap.size w W) (fun u _ => n - (intOf u).toNat)
  case atStart => exact ⟨0, rfl, Nat.zero_le _, .inr hB1, hb1'⟩
  case round =>
    clear hB1 hb1 hb1'
    obtain ⟨k, rfl, hk, hB, hb⟩ := hrel
    have hm := h.below hb
    have cm := hm.cell
    by_cases hlt : k < n
    · have hcl := Lib.byteCells_length (bytesOf l a k)
      rw [bytesOf_len] at hcl
      have hw := fun c => write_u w.heap.size w.heap.size (Lib.byteCells (bytesOf l a k)) c wr hB (by omega) hb.size
      have HWR := hide hw
      have HNX := hide (bytesOf_cells h.rise a k)
      clear hw hcl
      go_wp2_with (first
        | (at_lookup; refine wpList_lookup_own_int _ rfl _ _ 51 rfl 27 5 .u8 lawU Try.underlying51 Try.underlying5 (zeroB _) bm _ _ rfl hm.own _ _ rfl (keyOf_int_mk Try.underlying27 (wf_u32 (by omega))) ?_; intro c hat hwc; rw [D_atKey] at hat; have hce := lit_u8 hat; subst hce)
        | (go_at_call 28; refine (HWR.out _).mono ?_; rintro e w2 ⟨rfl, hB2, hb2⟩)
        | go_in)
      rw [HNX.out] at hB2
      exact ⟨⟨k + 1, by go_num, by omega, .inr hB2, hb.trans hb2⟩, by simp [intOf]; omega⟩
    · have e : k = n := by omega
      subst e
      have hst := Try.Builder_String_any w.heap.size w.heap.size (bytesOf l a k) wr hB hb.size
      have HST := hide hst
      clear hst
      go_wp2_with (go_at_call 29; refine HST.out.mono ?_; rintro e w2 ⟨rfl, hb2⟩)
      go_ret
      exact ⟨rfl, hb.trans hb2⟩
end Go.Proofs.Ytmhgighiekncfaa
namespace Go.Proofs.Ytmhgighiekncfaa
open Go.RowKit Go.Maps Mm

/-- The same, the blocks' numbers as letters. -/
theorem new_op (w : World) : Calls Try.prog 9 #[] w fun e w' => ∃ pb bm : Nat, e = .returned (.pointer (some ⟨pb, 0, none⟩)) ∧ MemAt w' pb bm [] ∧ w.heap.size ≤ pb ∧ w.heap.size ≤ bm ∧ Below w.heap.size w w' :=
  (new_any w).mono fun _ _ ⟨he, hm, hb, _⟩ => ⟨_, _, he, hm, by omega, by omega, hb⟩
theorem copy_op {pb bm : Nat} {l : Cs} (w : World) (h : MemAt w pb bm l) : Calls Try.prog 19 #[.pointer (some ⟨pb, 0, none⟩)] w fun e w' => ∃ pb' bm' : Nat, e = .returned (.pointer (some ⟨pb', 0, none⟩)) ∧ MemAt w' pb' bm' l ∧ w.heap.size ≤ pb' ∧ w.heap.size ≤ bm' ∧ Below w.heap.size w w' :=
  (copy_any w h).mono fun _ _ ⟨he, hm, hb, _⟩ => ⟨_, _, he, hm, by omega, by omega, hb⟩
theorem MemAt.apart {w w' : World} {pb bm b : Nat} {l : Cs} (h : MemAt w pb bm l) (hg : w.grownBy w' (some b)) (h1 : pb ≠ b) (h2 : bm ≠ b) : MemAt w' pb bm l := h.kept hg (by simpa using h1) (by simpa using h2)
theorem drewN_below (w : World) (n B : Nat) : Below B w (w.drewN n) := ⟨rfl, rfl, rfl, Nat.le_refl _, fun _ _ => rfl⟩

def fxL : Cs := [(0, 18), (4294967295, 52)]
theorem fx_sto : sto [] 4294967295 4660 (2 : Int).toNat = fxL := by decide +kernel
theorem fx_num : num fxL 0 (1 : Int).toNat = 18 := by decide +kernel
theorem fx_bytes : bytesOf fxL 4294967295 3 = [52, 18, 0] := by decide +kernel

theorem grown_below {w w' : World} {b B : Nat} (h : w.grownBy w' (some b)) (hB : B ≤ b) (hs : B ≤ w.heap.size) : Below B w w' := (Below.refl B w).grown h hs (fun k e => by cases e; exact hB)

set_option maxHeartbeats 4000000 in
set_option maxRecDepth 100000 in
theorem fixed3_any (w : World) : Calls Try.prog 22 #[] w fun e w' => e = .returned (.bool true) ∧ Below w.heap.size w w' := by
  go_enter Try.func22, Try.ntmps22
  go_wp2_with fail
  refine (new_any w).mono ?_
  rintro e w1 ⟨rfl, hm1, hb1, hz1⟩
  go_wp2_with fail
  refine (store_any w1 hm1 (by omega) (Or.inr (Or.inl rfl)) (by omega)).mono ?_
  rintro e w2 ⟨rfl, hm2, hg2⟩
  rw [fx_sto] at hm2
  have hb2 : Below w.heap.size w w2 := hb1.trans (grown_below hg2 (Nat.le_refl _) hb1.size)
  clear hm1 hz1
  go_wp2_with fail
  refine (load_any w2 hm2 (by omega) (Or.inl rfl)).mono ?_
  rintro e w3 ⟨rfl, rfl⟩
  rw [fx_num]
  go_wp2_with fail
  refine (load_no _ (by decide) w3).mono ?_
  rintro e w4 ⟨rfl, rfl⟩
  go_wp2_with fail
  refine (cells_any w4 hm2).mono ?_
  rintro e w5 ⟨v, rfl, ho5, hb5⟩
  have hm5 := hm2.below hb5
  have hb5' : Below w.heap.size w w5 := hb2.trans (hb5.mono hb2.size)
  go_wp2_with fail
  have hlit := World.ownsRow_lit (base := 0) (e := 42) (size := 2) w5 #[.int .u32 0, .int .u8 18, .int .u32 4294967295, .int .u8 52] 2 (Nat.zero_le _) (by decide) rfl
  refine (same_yes (l := fxL) _ (ho5.alloc _) hlit (by decide)).mono ?_
  rintro e w6 ⟨rfl, n6, hw6⟩
  have hb6 : Below w5.heap.size w5 w6 := by
    rw [hw6]
    have := (Below.refl w5.heap.size w5).alloc (Nat.le_refl _) (.cells #[.int .u32 0, .int .u8 18, .int .u32 4294967295, .int .u8 52] 42)
    exact ⟨this.os, this.tape, this.output, this.size, this.block⟩
  have hm6 := hm5.below hb6
  have hb6' : Below w.heap.size w w6 := hb5'.trans (hb6.mono hb5'.size)
  clear hlit hw6 ho5 hm2 hb2 hb1 hg2 hb5 hm5 hb5' hb6
  go_wp2_with fail
  refine (bytes_some 3 w6 hm6 (by omega) (by omega) (by omega)).mono ?_
  rintro e w7 ⟨rfl, hb7⟩
  rw [fx_bytes]
  go_wp2
  go_ret
  exact ⟨rfl, hb6'.trans (hb7.mono hb6'.size)⟩
end Go.Proofs.Ytmhgighiekncfaa
namespace Go.Proofs.Ytmhgighiekncfaa
open Go.RowKit Go.Maps Mm

namespace Mm
/-- How far behind a an address lies. -/
def far (x a : Int) : Nat := ((x - a) % 4294967296).toNat
theorem far_add {a : Int} {i : Nat} (hi : i < 4294967296) : far ((a + i) % 4294967296) a = i := by unfold far; omega
theorem look_out {l : Cs} (h : Rise l) {x : Int} (hx : ¬ (0 ≤ x ∧ x < 4294967296)) : look l x = 0 := look_none fun p hp e => by have := h.ok p hp; omega
theorem look_puts {l : Cs} {a : Int} {s : List UInt8} {x : Int} (hx : 0 ≤ x ∧ x < 4294967296) : ∀ k : Nat, k ≤ 65536 → look (puts l a s k) x = if far x a < k then ((s.getD (far x a) 0).toNat : Int) else look l x
  | 0, _ => by simp [puts]
  | k + 1, hk => by
    have ih := @look_puts l a s x hx k (by omega)
    unfold puts
    rw [look_set, ih]
    have hf : far x a = ((x - a) % 4294967296).toNat := rfl
    by_cases h : x = (a + k) % 4294967296
    · have e : far x a = k := by omega
      rw [if_pos h, e, if_pos (by omega)]
    · have e : far x a ≠ k := by omega
      rw [if_neg h]
      by_cases h2 : far x a < k
      · rw [if_pos h2, if_pos (by omega)]
      · rw [if_neg h2, if_neg (by omega)]
theorem look_sto {l : Cs} {a v : Int} {x : Int} (hx : 0 ≤ x ∧ x < 4294967296) : ∀ k : Nat, k ≤ 4 → look (sto l a v k) x = if far x a < k then v / 256 ^ far x a % 256 else look l x
  | 0, _ => by simp [sto]
  | k + 1, hk => by
    have ih := @look_sto l a v x hx k (by omega)
    unfold sto
    rw [look_set, ih]
    have hf : far x a = ((x - a) % 4294967296).toNat := rfl
    by_cases h : x = (a + k) % 4294967296
    · have e : far x a = k := by omega
      rw [if_pos h, e, if_pos (by omega)]
    · have e : far x a ≠ k := by omega
      rw [if_neg h]
      by_cases h2 : far x a < k
      · rw [if_pos h2, if_pos (by omega)]
      · rw [if_neg h2, if_neg (by omega)]
theorem ext' {l l' : Cs} (h : Rise l) (h' : Rise l') (e : ∀ x, 0 ≤ x ∧ x < 4294967296 → look l x = look l' x) : l = l' :=
  ext h h' fun x => by
    by_cases hx : 0 ≤ x ∧ x < 4294967296
    · exact e x hx
    · rw [look_out h hx, look_out h' hx]
theorem byte_ofNat (c : UInt8) : UInt8.ofNat ((c.toNat : Int).toNat) = c := by rw [Int.toNat_natCast]; exact UInt8.ofNat_toNat
/-- What was put is read. -/
theorem bytes_puts (l : Cs) (a : Int) (s : List UInt8) (n : Nat) (hn : n ≤ s.length) (hn2 : n ≤ 65536) (k : Nat) (hk : n ≤ k) (hk2 : k ≤ 65536) : bytesOf (puts l a s k) a n = s.take n := by
  apply List.ext_getElem
  · rw [bytesOf_len, List.length_take]; omega
  · intro i h1 h2
    rw [bytesOf_len] at h1
    rw [List.getElem_take]
    simp only [bytesOf, List.getElem_map, List.getElem_range, byteAt]
    rw [look_puts (by omega) k hk2, far_add (by omega), if_pos (by omega), List.getD_eq_getElem?_getD, List.getElem?_eq_getElem (by omega)]
    exact byte_ofNat _
theorem bytes_all (a : Int) (t : ByteArray) (h : t.size ≤ 65536) : (⟨(bytesOf (puts [] a t.data.toList t.size) a t.size).toArray⟩ : ByteArray) = t := by
  have e : t.size = t.data.toList.length := by simp
  rw [bytes_puts [] a t.data.toList t.size (by omega) h t.size (Nat.le_refl _) h, e, List.take_length]
/-- Noughts put over what was put. -/
theorem puts_zero (a : Int) (s z : List UInt8) (n : Nat) (hn : n ≤ 65536) (hz : ∀ i, z.getD i 0 = 0) : puts (puts [] a s n) a z n = [] := by
  refine ext' (rise_puts (rise_puts rise_nil _ _ _) _ _ _) rise_nil fun x hx => ?_
  rw [look_puts hx n hn, look_puts hx n hn]
  by_cases h : far x a < n
  · rw [if_pos h, hz]; rfl
  · rw [if_neg h, if_neg h]
end Mm

theorem bytes_any {pb bm : Nat} {l : Cs} {a : Int} (n : Int) (w : World) (h : MemAt w pb bm l) (ha : 0 ≤ a ∧ a < 4294967296) (hn : n ≤ 65536) :
    Calls Try.prog 17 #[.pointer (some ⟨pb, 0, none⟩), .int .u32 a, .int .i64 n] w fun e w' => e = .returned (.string ⟨(bytesOf l a n.toNat).toArray⟩) ∧ Below w.heap.size w w' := by
  by_cases h1 : n < 1
  · refine (bytes_none w h1).mono ?_
    rintro e w' ⟨rfl, rfl⟩
    rw [show n.toNat = 0 by omega]
    exact ⟨rfl, Below.refl _ _⟩
  · obtain ⟨k, rfl⟩ := Int.eq_ofNat_of_zero_le (show 0 ≤ n by omega)
    rw [Int.toNat_natCast]
    exact bytes_some k w h ha (by omega) (by omega)
end Go.Proofs.Ytmhgighiekncfaa
namespace Go.Proofs.Ytmhgighiekncfaa
open Go.RowKit Go.Maps Mm

/-- v is the number at a, n bytes wide: behind a name, that the walk does not rewrite by it. -/
def NumIs (v : Int) (l : Cs) (a : Int) (n : Nat) : Prop := v = num l a n
def TextIs (t : ByteArray) (l : Cs) (a : Int) (n : Nat) : Prop := t = ⟨(bytesOf l a n).toArray⟩
theorem load_op {pb bm : Nat} {l : Cs} {a n : Int} (w : World) (h : MemAt w pb bm l) (ha : 0 ≤ a ∧ a < 4294967296) (hn : n = 1 ∨ n = 2 ∨ n = 4) :
    Calls Try.prog 11 #[.pointer (some ⟨pb, 0, none⟩), .int .u32 a, .int .i64 n] w fun e w' => ∃ v, e = .returned (.tuple #[.int .u32 v, .int .i64 0]) ∧ NumIs v l a n.toNat ∧ w' = w :=
  (load_any w h ha hn).mono fun _ _ h => ⟨_, h.1, rfl, h.2⟩
theorem bytes_op {pb bm : Nat} {l : Cs} {a : Int} (n : Int) (w : World) (h : MemAt w pb bm l) (ha : 0 ≤ a ∧ a < 4294967296) (hn : n ≤ 65536) :
    Calls Try.prog 17 #[.pointer (some ⟨pb, 0, none⟩), .int .u32 a, .int .i64 n] w fun e w' => ∃ t, e = .returned (.string t) ∧ TextIs t l a n.toNat ∧ Below w.heap.size w w' :=
  (bytes_any n w h ha hn).mono fun _ _ h => ⟨_, h.1, rfl, h.2⟩

theorem wrap32 {x : Int} (h : 0 ≤ x ∧ x < 4294967296) : IntKind.u32.wrap x = x := by
  have : IntKind.u32.wrap x = x % 4294967296 := rfl
  omega
theorem num_two (l : Cs) (a : Int) (h : 0 ≤ a ∧ a < 4294967296) : num l a 2 = Mm.look l a + Mm.look l ((a + 1) % 4294967296) * 256 := by
  have e : (a + ((0 : Nat) : Int)) % 4294967296 = a := by omega
  show (0 + Mm.look l ((a + ((0 : Nat) : Int)) % 4294967296) * 256 ^ 0) + Mm.look l ((a + 1) % 4294967296) * 256 ^ 1 = _
  rw [e]; omega
theorem num_four (l : Cs) (a : Int) (h : 0 ≤ a ∧ a < 4294967296) : num l a 4 = Mm.look l a + Mm.look l ((a + 1) % 4294967296) * 256 + Mm.look l ((a + 2) % 4294967296) * 65536 + Mm.look l ((a + 3) % 4294967296) * 16777216 := by
  have e := num_two l a h
  show num l a 2 + Mm.look l ((a + 2) % 4294967296) * 256 ^ 2 + Mm.look l ((a + 3) % 4294967296) * 256 ^ 3 = _
  rw [e]; omega
theorem split_num {L : Cs} (hr : Rise L) {c V X Y : Int} (hc : 0 ≤ c ∧ c < 4294967296) (hV : NumIs V L c (4 : Int).toNat) (hX : NumIs X L c (2 : Int).toNat) (hY : NumIs Y L ((c + 2) % 4294967296) (2 : Int).toNat) :
    bits .or .u32 X (IntKind.u32.wrap (Y * 65536)) = V := by
  have hV : V = num L c 4 := hV
  have hX : X = num L c 2 := hX
  have hY : Y = num L ((c + 2) % 4294967296) 2 := hY
  rw [num_four L c hc] at hV
  rw [num_two L c hc] at hX
  rw [num_two L _ (by omega), show ((c + 2) % 4294967296 + 1) % 4294967296 = (c + 3) % 4294967296 by omega] at hY
  have r0 := look_range hr c
  have r1 := look_range hr ((c + 1) % 4294967296)
  have r2 := look_range hr ((c + 2) % 4294967296)
  have r3 := look_range hr ((c + 3) % 4294967296)
  rw [wrap32 (by omega)]
  obtain ⟨x, ex⟩ := Int.eq_ofNat_of_zero_le (a := X) (by omega)
  obtain ⟨y, ey⟩ := Int.eq_ofNat_of_zero_le (a := Y) (by omega)
  have := or_nat x y 16 (by omega) (by omega) (by omega)
  rw [ex, ey, show (y : Int) * 65536 = ((y * 2 ^ 16 : Nat) : Int) by omega, this]; omega
theorem text_at {u : ByteArray} {L : Cs} {c : Int} {n : Nat} (hr : Rise L) (hu : TextIs u L c n) (i : Nat) (hi : i < u.size) : ((u[i]'hi).toNat : Int) = Mm.look L ((c + i) % 4294967296) := by
  unfold TextIs at hu
  subst hu
  have e : (⟨(bytesOf L c n).toArray⟩ : ByteArray)[i] = byteAt L c i := by
    show (bytesOf L c n).toArray[i] = _
    rw [List.getElem_toArray]; simp [bytesOf]
  rw [e, byteAt_val hr]
theorem split_text {L : Cs} (hr : Rise L) {c V : Int} {u : ByteArray} (hc : 0 ≤ c ∧ c < 4294967296) (hV : NumIs V L c (4 : Int).toNat) (hu : TextIs u L c (4 : Int).toNat) (h : u.size = 4) :
    bits .or .u32 (bits .or .u32 (bits .or .u32 (IntKind.u32.wrap ((u[0]'(by omega)).toNat : Int)) (IntKind.u32.wrap (IntKind.u32.wrap ((u[1]'(by omega)).toNat : Int) * 256)))
      (IntKind.u32.wrap (IntKind.u32.wrap ((u[2]'(by omega)).toNat : Int) * 65536))) (IntKind.u32.wrap (IntKind.u32.wrap ((u[3]'(by omega)).toNat : Int) * 16777216)) = V := by
  have hV : V = num L c 4 := hV
  rw [num_four L c hc] at hV
  have r0 := look_range hr c
  have r1 := look_range hr ((c + 1) % 4294967296)
  have r2 := look_range hr ((c + 2) % 4294967296)
  have r3 := look_range hr ((c + 3) % 4294967296)
  have e0 := text_at hr hu 0 (by omega)
  have e1 := text_at hr hu 1 (by omega)
  have e2 := text_at hr hu 2 (by omega)
  have e3 := text_at hr hu 3 (by omega)
  rw [show (c + ((0 : Nat) : Int)) % 4294967296 = c by omega] at e0
  rw [show (c + ((1 : Nat) : Int)) % 4294967296 = (c + 1) % 4294967296 from rfl] at e1
  rw [show (c + ((2 : Nat) : Int)) % 4294967296 = (c + 2) % 4294967296 from rfl] at e2
  rw [show (c + ((3 : Nat) : Int)) % 4294967296 = (c + 3) % 4294967296 from rfl] at e3
  rw [e0, e1, e2, e3, hV]
  generalize Mm.look L c = x0 at *
  generalize Mm.look L ((c + 1) % 4294967296) = x1 at *
  generalize Mm.look L ((c + 2) % 4294967296) = x2 at *
  generalize Mm.look L ((c + 3) % 4294967296) = x3 at *
  rw [wrap32 (x := x0) (by omega), wrap32 (x := x1) (by omega), wrap32 (x := x2) (by omega), wrap32 (x := x3) (by omega), wrap32 (x := x1 * 256) (by omega), wrap32 (x := x2 * 65536) (by omega), wrap32 (x := x3 * 16777216) (by omega)]
  rw [or_1 x0 x1 (by omega) (by omega), or_2 (x0 + x1 * 256) x2 (by omega) (by omega), or_3 _ x3 (by omega) (by omega)]

theorem ins_len (a c : Int) : ∀ l : Cs, (ins a c l).length ≤ l.length + 1
  | [] => by simp [ins]
  | p :: r => by
    have := ins_len a c r
    unfold ins; split
    · simp
    · split
      · simp
      · simp; omega
theorem set_len (l : Cs) (a c : Int) : (Mm.set l a c).length ≤ l.length + 1 := by
  unfold Mm.set; split
  · unfold del; have := List.length_filter_le (fun p : Int × Int => !(p.1 == a)) l; omega
  · exact ins_len a c l
theorem puts_len (a : Int) (s : List UInt8) : ∀ n : Nat, (puts [] a s n).length ≤ n
  | 0 => by simp [puts]
  | n + 1 => by
    have := puts_len a s n
    unfold puts
    have := set_len (puts [] a s n) ((a + n) % 4294967296) ((s.getD n 0).toNat : Int)
    omega
theorem and_mask (v : Int) (k : Nat) (hk : k ≤ 31) (h : 0 ≤ v ∧ v < 4294967296) : bits .and .u32 v ((2 ^ k - 1 : Nat) : Int) = v % ((2 ^ k : Nat) : Int) := by
  obtain ⟨x, rfl⟩ := Int.eq_ofNat_of_zero_le h.1
  have hp : 2 ^ k ≤ 2 ^ 31 := Nat.pow_le_pow_right (by omega) hk
  rw [u32_and_nat x (2 ^ k - 1) (by omega) (by omega), Nat.and_two_pow_sub_one_eq_mod]
  exact Int.natCast_emod x (2 ^ k)
theorem and_255 (v : Int) (h : 0 ≤ v ∧ v < 4294967296) : bits .and .u32 v 255 = v % 256 := and_mask v 8 (by omega) h
theorem and_65535 (v : Int) (h : 0 ≤ v ∧ v < 4294967296) : bits .and .u32 v 65535 = v % 65536 := and_mask v 16 (by omega) h
theorem look_sto_at {l : Cs} {x v : Int} (i : Nat) (hi : i < 4) : Mm.look (sto l x v 4) ((x + i) % 4294967296) = v / 256 ^ i % 256 := by
  rw [look_sto (by omega) 4 (by omega), far_add (by omega), if_pos hi]
theorem num_sto {l : Cs} {x v : Int} (hx : 0 ≤ x ∧ x < 4294967296) (hv : 0 ≤ v ∧ v < 4294967296) : num (sto l x v 4) x 4 = v := by
  have e0 := look_sto_at (l := l) (x := x) (v := v) 0 (by omega)
  have e1 := look_sto_at (l := l) (x := x) (v := v) 1 (by omega)
  have e2 := look_sto_at (l := l) (x := x) (v := v) 2 (by omega)
  have e3 := look_sto_at (l := l) (x := x) (v := v) 3 (by omega)
  rw [show (x + ((0 : Nat) : Int)) % 4294967296 = x by omega] at e0
  rw [show (x + ((1 : Nat) : Int)) % 4294967296 = (x + 1) % 4294967296 from rfl] at e1
  rw [show (x + ((2 : Nat) : Int)) % 4294967296 = (x + 2) % 4294967296 from rfl] at e2
  rw [show (x + ((3 : Nat) : Int)) % 4294967296 = (x + 3) % 4294967296 from rfl] at e3
  rw [num_four _ x hx, e0, e1, e2, e3]; omega
theorem num_sto_1 {l : Cs} {x v : Int} : num (sto l x v 4) x 1 = v % 256 := by
  have e0 := look_sto_at (l := l) (x := x) (v := v) 0 (by omega)
  show 0 + Mm.look (sto l x v 4) ((x + ((0 : Nat) : Int)) % 4294967296) * 256 ^ 0 = _
  rw [e0]; omega
theorem num_sto_2 {l : Cs} {x v : Int} : num (sto l x v 4) ((x + 1) % 4294967296) 2 = v / 256 % 65536 := by
  have e1 := look_sto_at (l := l) (x := x) (v := v) 1 (by omega)
  have e2 := look_sto_at (l := l) (x := x) (v := v) 2 (by omega)
  rw [show (x + ((1 : Nat) : Int)) % 4294967296 = (x + 1) % 4294967296 from rfl] at e1
  rw [show (x + ((2 : Nat) : Int)) % 4294967296 = (x + 2) % 4294967296 from rfl] at e2
  rw [num_two _ _ (by omega), show ((x + 1) % 4294967296 + 1) % 4294967296 = (x + 2) % 4294967296 by omega, e1, e2]; omega
/-- The bytes beside what was stored are those that were put. -/
theorem bytes_beside (a v : Int) (s : List UInt8) (o n : Nat) (hs : s.length ≤ 30) (hn : o + n ≤ s.length) (h : o + n ≤ 7 ∨ 11 ≤ o) :
    bytesOf (sto (puts [] a s s.length) ((a + 7) % 4294967296) v 4) ((a + o) % 4294967296) n = (s.drop o).take n := by
  apply List.ext_getElem
  · rw [bytesOf_len, List.length_take, List.length_drop]; omega
  · intro i h1 h2
    rw [bytesOf_len] at h1
    have e : (bytesOf (sto (puts [] a s s.length) ((a + 7) % 4294967296) v 4) ((a + o) % 4294967296) n)[i]'(by rw [bytesOf_len]; exact h1) = byteAt (sto (puts [] a s s.length) ((a + 7) % 4294967296) v 4) ((a + o) % 4294967296) i := by simp [bytesOf]
    rw [e, List.getElem_take, List.getElem_drop]
    unfold byteAt
    rw [show ((a + (o : Int)) % 4294967296 + (i : Int)) % 4294967296 = (a + ((o + i : Nat) : Int)) % 4294967296 by omega]
    rw [look_sto (by omega) 4 (by omega), if_neg (by unfold far; omega), look_puts (by omega) _ (by omega), far_add (by omega), if_pos (by omega)]
    rw [List.getD_eq_getElem?_getD, List.getElem?_eq_getElem (by omega)]
    exact byte_ofNat _
end Go.Proofs.Ytmhgighiekncfaa
namespace Go.Proofs.Ytmhgighiekncfaa
open Go.ChangeShapes Go.WideShapes Go.ChangeAt Go.RowKit Go.Deep

/-- A call of a script. -/
structure Rec where
  k : Int
  n : Int
  a : Int
  v : Int
  s : ByteArray
/-- The five cells of a call, and what they are. -/
structure OpAt (w : World) (b o : Nat) (r : Rec) : Prop where
  c0 : w.cell? ⟨b, o, none⟩ = some (.int .i64 r.k)
  c1 : w.cell? ⟨b, o + 1, none⟩ = some (.int .i64 r.n)
  c2 : w.cell? ⟨b, o + 2, none⟩ = some (.int .u32 r.a)
  c3 : w.cell? ⟨b, o + 3, none⟩ = some (.int .u32 r.v)
  c4 : w.cell? ⟨b, o + 4, none⟩ = some (.string r.s)
  wk : (Lit.int .i64 r.k).wf = true
  wn : (Lit.int .i64 r.n).wf = true
  wa : (Lit.int .u32 r.a).wf = true
  wv : (Lit.int .u32 r.v).wf = true
  ws : r.s.size ≤ maxLen
/-- The value is a slice of n calls. -/
def Script (w : World) (x : Value) (n : Nat) (ops : Nat → Rec) : Prop :=
  ∃ ad cap, x = .slice ad n cap ∧ ∀ i, i < n → ∃ b o, ad = some ⟨b, o, none⟩ ∧ OpAt w b (o + i * 5) (ops i)

theorem cell_lt {w : World} {a : Addr} {v : Value} (h : w.cell? a = some v) : a.block < w.heap.size := by
  unfold World.cell? at h
  split at h
  · rename_i e; exact (Array.getElem?_eq_some_iff.1 e).1
  · cases h
theorem cell_spot {w : World} {a : Addr} {v : Value} (h : w.cell? a = some v) : a.spot = none := by
  unfold World.cell? at h
  split at h
  · split at h
    · cases h
    · rename_i hs; simpa using hs
  · cases h
theorem cell_below {w w' : World} (h : Below w.heap.size w w') {a : Addr} {v : Value} (hc : w.cell? a = some v) : w'.cell? a = some v := by
  have hl := cell_lt hc
  unfold World.cell? at hc ⊢
  rw [h.block _ hl]; exact hc
theorem OpAt.below {w w' : World} {b o : Nat} {r : Rec} (x : OpAt w b o r) (h : Below w.heap.size w w') : OpAt w' b o r :=
  ⟨cell_below h x.c0, cell_below h x.c1, cell_below h x.c2, cell_below h x.c3, cell_below h x.c4, x.wk, x.wn, x.wa, x.wv, x.ws⟩
theorem Script.below {w w' : World} {x : Value} {n : Nat} {ops : Nat → Rec} (s : Script w x n ops) (h : Below w.heap.size w w') : Script w' x n ops := by
  obtain ⟨ad, cap, e, f⟩ := s
  exact ⟨ad, cap, e, fun i hi => by obtain ⟨b, o, e, g⟩ := f i hi; exact ⟨b, o, e, g.below h⟩⟩

theorem cellsOp : Try.prog.cellsOf 29 = 5 := by kernel_rfl
theorem cellsI3 : Try.prog.cellsOf 3 = 1 := by kernel_rfl
theorem cellsU : Try.prog.cellsOf 27 = 1 := by kernel_rfl
theorem cellsS : Try.prog.cellsOf 9 = 1 := by kernel_rfl

section
variable {H : Type} {enc : TypeId × Value → H} {w : World} {base : Nat} {spare : Nat → Bool} {held : Bool}
theorem list5 {α : Type} {cs : List α} (h : cs.length = 5) : ∃ c0 c1 c2 c3 c4, cs = [c0, c1, c2, c3, c4] := by
  match cs, h with
  | [c0, c1, c2, c3, c4], _ => exact ⟨c0, c1, c2, c3, c4, rfl⟩
/-- One call, opened. -/
theorem open_op {fuel : Nat} {cs : List Value} {x : DataW H × List MemPlace} (h : DataW.trod enc Try.prog w base spare held fuel 29 cs = some x) :
    ∃ r : Rec, cs = [.int .i64 r.k, .int .i64 r.n, .int .u32 r.a, .int .u32 r.v, .string r.s] ∧ (Lit.int .i64 r.k).wf = true ∧ (Lit.int .i64 r.n).wf = true ∧ (Lit.int .u32 r.a).wf = true ∧ (Lit.int .u32 r.v).wf = true ∧ r.s.size ≤ maxLen ∧
      x = (.agg [.lit (.int .i64 r.k), .lit (.int .i64 r.n), .lit (.int .u32 r.a), .lit (.int .u32 r.v), .lit (.string r.s.data.toList)], []) := by
  obtain ⟨xs, n, _, hx, hl, hlen, hg⟩ := DataW.trod_struct Try.underlying29 h
  obtain ⟨c0, c1, c2, c3, c4, rfl⟩ := list5 (hl.trans cellsOp)
  have h0 := hg 0 _ rfl
  have h1 := hg 1 _ rfl
  have h2 := hg 2 _ rfl
  have h3 := hg 3 _ rfl
  have h4 := hg 4 _ rfl
  match xs, hlen with
  | [y0, y1, y2, y3, y4], _ =>
    simp [cellsI3, cellsU, cellsS] at h0 h1 h2 h3 h4
    obtain ⟨a0, e0, rfl, w0⟩ := DataW.trod_int Try.underlying3 h0
    obtain ⟨a1, e1, rfl, w1⟩ := DataW.trod_int Try.underlying3 h1
    obtain ⟨a2, e2, rfl, w2⟩ := DataW.trod_int Try.underlying27 h2
    obtain ⟨a3, e3, rfl, w3⟩ := DataW.trod_int Try.underlying27 h3
    obtain ⟨s, e4, rfl, w4⟩ := DataW.trod_string Try.underlying9 h4
    simp at e0 e1 e2 e3 e4
    subst e0 e1 e2 e3 e4
    simp at hx
    exact ⟨⟨a0, a1, a2, a3, s⟩, rfl, w0, w1, w2, w3, w4, hx⟩
theorem shut_op (r : Rec) (wk : (Lit.int .i64 r.k).wf = true) (wn : (Lit.int .i64 r.n).wf = true) (wa : (Lit.int .u32 r.a).wf = true) (wv : (Lit.int .u32 r.v).wf = true) (ws : r.s.size ≤ maxLen) :
    ∃ n, DataW.trod enc Try.prog w base spare held n 29 [.int .i64 r.k, .int .i64 r.n, .int .u32 r.a, .int .u32 r.v, .string r.s] =
      some (.agg [.lit (.int .i64 r.k), .lit (.int .i64 r.n), .lit (.int .u32 r.a), .lit (.int .u32 r.v), .lit (.string r.s.data.toList)], []) := by
  have f : ∀ a : Int, (Lit.int .i64 a).wf = true → DataW.trod enc Try.prog w base spare held 1 3 [.int .i64 a] = some (.lit (.int .i64 a), []) := fun a h => by simp [DataW.trod, Try.underlying3, h]
  have g : ∀ a : Int, (Lit.int .u32 a).wf = true → DataW.trod enc Try.prog w base spare held 1 27 [.int .u32 a] = some (.lit (.int .u32 a), []) := fun a h => by simp [DataW.trod, Try.underlying27, h]
  have hs : DataW.trod enc Try.prog w base spare held 1 9 [.string r.s] = some (.lit (.string r.s.data.toList), []) := by simp [DataW.trod, Try.underlying9, ws]
  have ts := trod_struct_mk (enc := enc) (w := w) (base := base) (spare := spare) (held := held) (n := 1) (cs := [.int .i64 r.k, .int .i64 r.n, .int .u32 r.a, .int .u32 r.v, .string r.s]) (xs := [(.lit (.int .i64 r.k), []), (.lit (.int .i64 r.n), []), (.lit (.int .u32 r.a), []), (.lit (.int .u32 r.v), []), (.lit (.string r.s.data.toList), [])]) Try.underlying29 (by rw [cellsOp]; rfl)
    (by simp [cellsI3, cellsU, cellsS, f, g, hs, wk, wn, wa, wv])
  exact ⟨_, by simpa using ts⟩
end

section
variable {H : Type} {enc : TypeId × Value → H}
theorem addr_add (a : Addr) (i j : Nat) (h : a.spot = none) : (a.add i).add j = ⟨a.block, a.off + i + j, none⟩ := by
  obtain ⟨b, o, s⟩ := a
  simp only at h
  subst h
  unfold Addr.add
  by_cases hi : i = 0 <;> by_cases hj : j = 0 <;> simp [hi, hj]
/-- A script, opened. -/
theorem open_script {W : World} {x : Value} {d : DataW H} {p : List MemPlace} (hv : Value.okWide Try.prog W .any 0 22 x) (h : DataW.Trod enc Try.prog W 0 (fun _ => true) true 22 x d p) :
    ∃ n ops, n ≤ maxLen ∧ Script W x n ops := by
  obtain ⟨a0, l0, p0, rfl⟩ := okWide_slice Try.underlying22 hv
  obtain ⟨fuel, hf⟩ := h
  rcases open_slice Try.underlying22 hf with ⟨h0, _⟩ | ⟨a, len, cap, m, n, D, Pl, h0, hb, hl, hm, hmm, _, hx⟩
  · simp [Value.cells] at h0
    obtain ⟨rfl, rfl, rfl⟩ := h0
    exact ⟨0, fun _ => ⟨0, 0, 0, 0, ⟨#[]⟩⟩, Nat.zero_le _, none, 0, rfl, fun i hi => by omega⟩
  · simp [Value.cells] at h0
    obtain ⟨rfl, rfl, rfl⟩ := h0
    simp only [if_true] at hmm
    subst hmm
    have each : ∀ i, i < l0 → ∃ r : Rec, (∀ j, j < 5 → W.cell? ((a.add (i * 5)).add j) = [Value.int .i64 r.k, .int .i64 r.n, .int .u32 r.a, .int .u32 r.v, .string r.s][j]?) ∧
        (Lit.int .i64 r.k).wf = true ∧ (Lit.int .i64 r.n).wf = true ∧ (Lit.int .u32 r.a).wf = true ∧ (Lit.int .u32 r.v).wf = true ∧ r.s.size ≤ maxLen := by
      intro i hi
      obtain ⟨cs', h1, h2⟩ := hx i (by omega)
      rw [cellsOp] at h1
      obtain ⟨_, hlen, hcell⟩ := World.cells?_some h1
      obtain ⟨r, rfl, wk, wn, wa, wv, ws, _⟩ := open_op h2
      exact ⟨r, hcell, wk, wn, wa, wv, ws⟩
    haveI : Inhabited Rec := ⟨⟨0, 0, 0, 0, ⟨#[]⟩⟩⟩
    obtain ⟨ops, hops⟩ := choose_lt each
    refine ⟨l0, ops, by omega, some a, _, rfl, fun i hi => ?_⟩
    have hsp : a.spot = none := cell_spot (w := W) (a := a) ((hops 0 (by omega)).1 0 (by omega))
    have c : ∀ j, j < 5 → W.cell? ⟨a.block, a.off + i * 5 + j, none⟩ = [Value.int .i64 (ops i).k, .int .i64 (ops i).n, .int .u32 (ops i).a, .int .u32 (ops i).v, .string (ops i).s][j]? := fun j hj => by
      rw [← addr_add a _ _ hsp]; exact (hops i hi).1 j hj
    obtain ⟨_, wk, wn, wa, wv, ws⟩ := hops i hi
    refine ⟨a.block, a.off, ?_, c 0 (by omega), c 1 (by omega), c 2 (by omega), c 3 (by omega), c 4 (by omega), wk, wn, wa, wv, ws⟩
    obtain ⟨b, o, s⟩ := a
    simp only at hsp
    subst hsp; rfl
theorem mapM_eq {α β : Type} {f g : α → Option β} : ∀ l : List α, (∀ i ∈ l, f i = g i) → l.mapM f = l.mapM g
  | [], _ => rfl
  | x :: r, h => by
    rw [List.mapM_cons, List.mapM_cons, h x List.mem_cons_self, mapM_eq r fun i hi => h i (List.mem_cons_of_mem _ hi)]
theorem cells_below {w w' : World} (h : Below w.heap.size w w') {base n : Nat} {a : Addr} {cs : List Value} (hc : w.cells? base a n = some cs) : w'.cells? base a n = some cs := by
  obtain ⟨hb, hl, hx⟩ := World.cells?_some hc
  rw [← hc]
  unfold World.cells?
  rw [if_pos hb, if_pos hb]
  refine mapM_eq _ fun i hi => ?_
  have hi' := List.mem_range.1 hi
  have hv := hx i hi'
  rw [List.getElem?_eq_getElem (by omega)] at hv
  rw [hv]; exact cell_below h hv
/-- A script, read again behind what has changed nothing old. -/
theorem again_script {W W' : World} {x : Value} {d : DataW H} {p : List MemPlace} (hb : Below W.heap.size W W') (hv : Value.okWide Try.prog W .any 0 22 x) (h : DataW.Trod enc Try.prog W 0 (fun _ => true) true 22 x d p)
    {sp : Nat → Bool} (hsp : ∀ b, b < W.heap.size → sp b = true) :
    DataW.Trod enc Try.prog W' 0 sp true 22 x d p := by
  obtain ⟨a0, l0, p0, rfl⟩ := okWide_slice Try.underlying22 hv
  obtain ⟨fuel, hf⟩ := h
  rcases open_slice Try.underlying22 hf with ⟨h0, h1⟩ | ⟨a, len, cap, m, n, D, Pl, h0, hb0, hl, hm, hmm, h1, hx⟩
  · simp [Value.cells] at h0
    obtain ⟨rfl, rfl, rfl⟩ := h0
    simp at h1
    obtain ⟨rfl, rfl⟩ := h1
    exact ⟨1, by simp [Value.cells, DataW.trod, Try.underlying22]⟩
  · simp [Value.cells] at h0
    obtain ⟨rfl, rfl, rfl⟩ := h0
    simp only [if_true] at hmm
    subst hmm
    simp only [Prod.mk.injEq] at h1
    obtain ⟨rfl, rfl⟩ := h1
    by_cases hc : m = 0
    · subst hc
      obtain rfl : l0 = 0 := by omega
      cases hs : sp a.block with
      | true =>
        exact shut_slice_whole_cells (enc := enc) (w := W') (held := true) (spare := sp) (base := 0) (a := a) Try.underlying22 hb0 hl hm hs D Pl fun i hi => by omega
      | false =>
        exact shut_slice_cells (enc := enc) (w := W') (held := true) (spare := sp) (base := 0) (a := a) (cap := 0) Try.underlying22 hb0 hl hm hs D Pl fun i hi => by omega
    · have hlt : a.block < W.heap.size := by
        obtain ⟨cs', h1, h2⟩ := hx 0 (by omega)
        obtain ⟨_, hlen, hcell⟩ := World.cells?_some h1
        obtain ⟨r, rfl, _⟩ := open_op h2
        have := hcell 0 (by rw [cellsOp]; omega)
        have := cell_lt this
        unfold Addr.add at this
        split at this <;> (try split at this) <;> simpa using this
      refine (shut_slice_whole_cells (enc := enc) (w := W') (held := true) (spare := sp) (base := 0) Try.underlying22 hb0 hl hm (hsp _ hlt) D Pl fun i hi => ?_)
      obtain ⟨cs', h1, h2⟩ := hx i hi
      obtain ⟨r, rfl, wk, wn, wa, wv, ws, e⟩ := open_op h2
      obtain ⟨k, hk⟩ := shut_op (enc := enc) (w := W') (base := 0) (spare := sp) (held := true) r wk wn wa wv ws
      exact ⟨_, k, cells_below hb h1, by rw [hk, e]⟩
end
end Go.Proofs.Ytmhgighiekncfaa
