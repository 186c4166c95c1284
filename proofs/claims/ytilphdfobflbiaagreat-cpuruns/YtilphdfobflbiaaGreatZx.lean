/-
  A scene among a law's arguments (a machine, bytes at two addresses, answers, fuel): opened, and in memory.
  Laid: the two memories of a scene hold the same bytes.
  A law's own boxes: the scene's machine loaded, a machine that is told, bytes that are told.
-/

import Derived.Test.YtilphdfobflbiaaGreatZj
import Derived.Test.YtilphdfobflbiaaGreatZk
import Derived.Test.YtilphdfobflbiaaGreatZo
import Derived.Test.YtilphdfobflbiaaGreatZp
import Derived.Test.YtilphdfobflbiaaGreatZt
namespace Go.Proofs.YtilphdfobflbiaaGreat
open Go.ChangeShapes Go.WideShapes Go.ChangeAt Go.RowKit Go.Maps Go.Deep Cp Ip Mm
set_option linter.unusedSimpArgs false

structure Scene where
  c : Mach
  a : BitVec 32
  b : BitVec 32
  s : ByteArray
  t : ByteArray
  ans : Value
  zs : List (BitVec 32)
  fuel : Int
def restL (V : Scene) : List Value := [.int .u32 (V.a.toNat : Int), .int .u32 (V.b.toNat : Int), .string V.s, .string V.t, V.ans, .int .i64 V.fuel]
def wcells (V : Scene) : Array Value := ((cells V.c).toList ++ restL V).toArray
structure SceneOk (w : World) (V : Scene) : Prop where
  ans : AnsAt w V.ans V.zs
  ss : V.s.size ≤ maxLen
  ts : V.t.size ≤ maxLen
  zl : V.zs.length ≤ maxLen
  f0 : -9223372036854775808 ≤ V.fuel
  f1 : V.fuel ≤ 9223372036854775807
theorem cells_list (c : Mach) : (cells c).toList.length = 33 := by rw [Array.length_toList, cells_size]
theorem wcells_rest (V : Scene) (j : Nat) : (wcells V)[33 + j]? = (restL V)[j]? := by
  unfold wcells
  rw [List.getElem?_toArray, List.getElem?_append_right (by rw [cells_list]; omega), cells_list, Nat.add_sub_cancel_left]
theorem wcells_cpu (V : Scene) (j : Nat) (v : Value) (h : (cells V.c).toList[j]? = some v) : (wcells V)[j]? = some v := by
  have hj : j < 33 := by have := (List.getElem?_eq_some_iff.1 h).1; rwa [cells_list] at this
  unfold wcells
  rw [List.getElem?_toArray, List.getElem?_append_left (by rw [cells_list]; omega)]; exact h
def SceneAt (w : World) (g : Nat) (V : Scene) : Prop := w.heap[g]? = some (.cells (wcells V) 28 (0, 0))
section
variable {w w' : World} {g : Nat} {V : Scene}
theorem SceneAt.lt (h : SceneAt w g V) : g < w.heap.size := (Array.getElem?_eq_some_iff.1 h).1
theorem SceneAt.new (w : World) (V : Scene) : SceneAt (w.alloc (.cells (wcells V) 28)) w.heap.size V := heap_alloc_new w _
theorem SceneAt.below (h : SceneAt w g V) (hb : Below w.heap.size w w') : SceneAt w' g V := by unfold SceneAt; rw [hb.block g h.lt]; exact h
theorem SceneAt.grown {k : Nat} (h : SceneAt w g V) (hg : w.grownBy w' (some k)) (hn : g ≠ k) : SceneAt w' g V := by unfold SceneAt; rw [hg.block g h.lt (by simpa using hn)]; exact h
theorem SceneAt.cpu (h : SceneAt w g V) : w.rangeAt g 0 (cells V.c).toList := fun j v hj => by
  rw [Nat.zero_add, cell_of_row w g j _ _ (0, 0) h]; exact wcells_cpu V j v hj
theorem SceneAt.rest (h : SceneAt w g V) (j : Nat) : w.cell? ⟨g, 33 + j, none⟩ = (restL V)[j]? := by
  rw [cell_of_row w g (33 + j) _ _ (0, 0) h, wcells_rest]
theorem SceneAt.a (h : SceneAt w g V) : w.cell? ⟨g, 33, none⟩ = some (.int .u32 (V.a.toNat : Int)) := h.rest 0
theorem SceneAt.b (h : SceneAt w g V) : w.cell? ⟨g, 34, none⟩ = some (.int .u32 (V.b.toNat : Int)) := h.rest 1
theorem SceneAt.s (h : SceneAt w g V) : w.cell? ⟨g, 35, none⟩ = some (.string V.s) := h.rest 2
theorem SceneAt.t (h : SceneAt w g V) : w.cell? ⟨g, 36, none⟩ = some (.string V.t) := h.rest 3
theorem SceneAt.ans (h : SceneAt w g V) : w.cell? ⟨g, 37, none⟩ = some V.ans := h.rest 4
theorem SceneAt.fuel (h : SceneAt w g V) : w.cell? ⟨g, 38, none⟩ = some (.int .i64 V.fuel) := h.rest 5
end
theorem cellsO1 : Tryz.prog.cellsOf 9 = 1 := by kernel_rfl
theorem cellsO2 : Tryz.prog.cellsOf 26 = 1 := by kernel_rfl
theorem cellsO3 : Tryz.prog.cellsOf 3 = 1 := by kernel_rfl
theorem cellsOS : Tryz.prog.cellsOf 28 = 39 := by kernel_rfl
theorem split_one {α : Type} {l : List α} {i : Nat} {x : α} (h : (l.drop i).take 1 = [x]) : l.drop i = x :: l.drop (i + 1) := by
  cases e : l.drop i with
  | nil => rw [e] at h; simp at h
  | cons y r =>
    rw [e] at h
    simp at h
    have : l.drop (i + 1) = r := by rw [← List.drop_drop, e]; rfl
    rw [this, h]
theorem spot4 {w : World} {a : Addr} {v : Value} (h : w.cell? a = some v) : a.spot = none := by
  unfold World.cell? at h
  split at h <;> simp_all
theorem add4 (a : Addr) (i : Nat) (h : a.spot = none) : a.add i = ⟨a.block, a.off + i, none⟩ := by
  obtain ⟨b, o, s⟩ := a
  simp only at h
  subst h
  unfold Addr.add
  by_cases hi : i = 0 <;> simp [hi]
section
variable {H : Type} {enc : TypeId × Value → H} {W : World}
theorem open_ans {fuel : Nat} {cs : List Value} {x : DataW H × List MemPlace} (h : DataW.trod enc Tryz.prog W 0 (fun _ => true) true fuel 26 cs = some x) : ∃ v zs, cs = [v] ∧ AnsAt W v zs ∧ zs.length ≤ maxLen := by
  rcases open_slice Tryz.underlying26 h with ⟨h0, _⟩ | ⟨a, len, cap, m, n, D, Pl, h0, hb, hl, hm, hmm, _, hx⟩
  · exact ⟨_, [], h0, ⟨none, 0, rfl, Nat.le_refl _, fun i hi => by simp at hi⟩, by simp⟩
  · simp only [if_true] at hmm
    subst hmm
    have each : ∀ i, i < len → ∃ z : BitVec 32, W.cell? (a.add i) = some (.int .u32 (z.toNat : Int)) := by
      intro i hi
      obtain ⟨cs', h1, h2⟩ := hx i (by omega)
      rw [cellsOU, Nat.mul_one] at h1
      obtain ⟨_, hlen, hcell⟩ := World.cells?_some h1
      obtain ⟨z, rfl⟩ := open_u32 h2
      have := hcell 0 (by omega)
      refine ⟨z, ?_⟩
      have e : (a.add i).add 0 = a.add i := by unfold Addr.add; simp
      rw [e] at this
      simpa using this
    obtain ⟨f, hf⟩ := choose_lt each
    refine ⟨_, (List.range len).map f, h0, ⟨some a, m, by simp, by simpa using hl, fun i hi => ?_⟩, by simp; omega⟩
    have hi' : i < len := by simpa using hi
    have hc := hf i hi'
    have h00 := hf 0 (by omega)
    have hsp : a.spot = none := by
      have := spot4 h00
      unfold Addr.add at this
      simpa using this
    rw [add4 a i hsp] at hc
    refine ⟨a.block, a.off, ?_, by simpa using hc⟩
    obtain ⟨b, o, s⟩ := a
    simp only at hsp
    subst hsp; rfl
set_option maxRecDepth 100000 in
theorem open_world {b0 : Nat} {v : Value} {d : DataW H} {p : List MemPlace} (hv : Value.okWide Tryz.prog W .any b0 28 v) (h : DataW.Trod enc Tryz.prog W 0 (fun _ => true) true 28 v d p) : ∃ V : Scene, SceneOk W V ∧ v = .agg (wcells V) := by
  obtain ⟨cs, rfl, hsz⟩ := okWide_struct Tryz.underlying28 hv
  obtain ⟨fuel, hf⟩ := h
  obtain ⟨xs, n, _, _, hl, hlen, hg⟩ := DataW.trod_struct Tryz.underlying28 hf
  rw [cellsOS] at hl
  have h0 := hg 0 _ rfl
  have h1 := hg 1 _ rfl
  have h2 := hg 2 _ rfl
  have h3 := hg 3 _ rfl
  have h4 := hg 4 _ rfl
  have h5 := hg 5 _ rfl
  have h6 := hg 6 _ rfl
  clear hg
  match xs, hlen with
  | [y0, y1, y2, y3, y4, y5, y6], _ =>
    simp [cellsOU, cellsOC, cellsO1, cellsO2, cellsO3] at h0 h1 h2 h3 h4 h5 h6
    obtain ⟨c, hc⟩ := open_cpuL h0
    obtain ⟨a, ha⟩ := open_u32 h1
    obtain ⟨b, hb⟩ := open_u32 h2
    obtain ⟨s, hs, _, ws⟩ := DataW.trod_string Tryz.underlying9 h3
    obtain ⟨t, ht, _, wt⟩ := DataW.trod_string Tryz.underlying9 h4
    obtain ⟨u, zs, hu, hz, hzl⟩ := open_ans h5
    obtain ⟨q, hq, _, wq⟩ := DataW.trod_int Tryz.underlying3 h6
    have bq := bounds_i64 wq
    refine ⟨⟨c, a, b, s, t, u, zs, q⟩, ⟨hz, ws, wt, hzl, bq.1, bq.2⟩, ?_⟩
    have e6 : cs.toList.drop 39 = [] := List.drop_eq_nil_of_le (by rw [show cs.toList.length = 39 from hl]; exact Nat.le_refl _)
    have e : cs.toList = (cells c).toList ++ [.int .u32 (a.toNat : Int), .int .u32 (b.toNat : Int), .string s, .string t, u, .int .i64 q] := by
      rw [← List.take_append_drop 33 cs.toList, show cs.toList.take 33 = (cells c).toList from hc, split_one (l := cs.toList) ha, split_one (l := cs.toList) hb, split_one (l := cs.toList) hs, split_one (l := cs.toList) ht, split_one (l := cs.toList) hu, split_one (l := cs.toList) hq, e6]
    have e' : cs = ((cells c).toList ++ [.int .u32 (a.toNat : Int), .int .u32 (b.toNat : Int), .string s, .string t, u, .int .i64 q]).toArray := by rw [← e]
    rw [e']; rfl
end
end Go.Proofs.YtilphdfobflbiaaGreat
namespace Go.Proofs.YtilphdfobflbiaaGreat
open Go.RowKit Go.Maps Cp Ip Mm
set_option linter.unusedSimpArgs false

def cutT (s : ByteArray) (n : Int) : ByteArray := s.extract 0 (min (s.size : Int) n).toNat
theorem cutT_size (s : ByteArray) (n : Int) (h : n ≤ 65536) : (cutT s n).size ≤ 65536 := by unfold cutT; rw [ByteArray.size_extract]; omega
def laid1 (V : Scene) : Cs := puts [] (V.a.toNat : Int) (cutT V.s 120).data.toList (cutT V.s 120).size
def laidL (V : Scene) : Cs := puts (laid1 V) (V.b.toNat : Int) (cutT V.t 40).data.toList (cutT V.t 40).size
/-- While a scene is laid. -/
structure LaidAt (w : World) (V : Scene) (pb bm kb : Nat) (l l' : Cs) (W : World) : Prop where
  sc : SceneAt W w.heap.size V
  mem : MemAt W pb bm l
  ref : RefAt W (w.heap.size + 1) kb l'
  low : Below w.heap.size w W
  p : w.heap.size < pb
  m : w.heap.size < bm
  sz : w.heap.size + 1 ≤ W.heap.size
theorem LaidAt.drew {w W : World} {V : Scene} {pb bm kb : Nat} {l l' : Cs} (h : LaidAt w V pb bm kb l l' W) : LaidAt w V pb bm kb l l' W.drew :=
  ⟨h.sc, h.mem.below (drewN_low W 1 _), h.ref.below (drewN_low W 1 _), h.low.trans (drewN_low W 1 _), h.p, h.m, h.sz⟩
theorem LaidAt.mput {w W W' : World} {V : Scene} {pb bm kb : Nat} {l l' l2 : Cs} (h : LaidAt w V pb bm kb l l' W) (hm : MemAt W' pb bm l2) (hg : W.grownBy W' (some bm)) : LaidAt w V pb bm kb l2 l' W' :=
  ⟨h.sc.grown hg (by have := h.m; omega), hm, h.ref.apart h.mem hg, below_grown h.low hg (by have := h.m; omega) h.low.size, h.p, h.m, Nat.le_trans h.sz hg.size⟩
theorem LaidAt.rput {w W W' : World} {V : Scene} {pb bm kb : Nat} {l l' l2 : Cs} (h : LaidAt w V pb bm kb l l' W) (hm : RefAt W' (w.heap.size + 1) kb l2) (hg : W.grownBy W' (some kb)) : LaidAt w V pb bm kb l l2 W' := by
  obtain ⟨n1, n2⟩ := mem_apart h.ref h.mem
  have hk := h.ref.base
  exact ⟨h.sc.grown hg (by omega), h.mem.apart hg n1 n2, hm, below_grown h.low hg (by omega) h.low.size, h.p, h.m, Nat.le_trans h.sz hg.size⟩
/-- What Laid tells. -/
def LaidR (w : World) (V : Scene) (e : Ending) (w' : World) : Prop := ∃ pb bm kb, e = .returned (.tuple #[.pointer (some ⟨pb, 0, none⟩), .pointer (some ⟨kb, 0, none⟩)]) ∧ MemAt w' pb bm (laidL V) ∧ RefAt w' w.heap.size kb (laidL V) ∧ w.heap.size ≤ pb ∧ w.heap.size ≤ bm ∧ Below w.heap.size w w'
theorem LaidAt.told {w W : World} {V : Scene} {pb bm kb : Nat} (h : LaidAt w V pb bm kb (laidL V) (laidL V) W) : LaidR w V (.returned (.tuple #[.pointer (some ⟨pb, 0, none⟩), .pointer (some ⟨kb, 0, none⟩)])) W :=
  ⟨pb, bm, kb, rfl, h.mem, h.ref.mono (by omega), by have := h.p; omega, by have := h.m; omega, h.low⟩
theorem cut_le (s : ByteArray) (n : Int) (h : 0 ≤ n) : (0 : Int) ≤ min (s.size : Int) n ∧ min (s.size : Int) n ≤ (s.size : Int) := by omega

set_option maxRecDepth 100000 in
set_option maxHeartbeats 8000000 in
theorem laid_any (V : Scene) (w : World) (hV : SceneOk w V) : Calls Tryz.prog 5 #[.agg (wcells V)] w fun e w' => LaidR w V e w' := by
  have sc0 := SceneAt.new w V
  have hss := hV.ss
  have hts := hV.ts
  unfold maxLen at hss hts
  have lo0 : Below w.heap.size w (w.alloc (.cells (wcells V) 28)) := (Below.refl _ _).alloc (Nat.le_refl _) _
  obtain ⟨m0, m1⟩ := cut_le V.s 120 (by omega)
  obtain ⟨m2, m3⟩ := cut_le V.t 40 (by omega)
  go_enter Tryz.func5, Tryz.ntmps5
  go_upto_region 1 with fail
  generalize hw0 : w.alloc (.cells (wcells V) 28) = w0 at sc0 lo0 ⊢
  have hz0 : w0.heap.size = w.heap.size + 1 := by rw [← hw0]; simp
  clear hw0
  go_wp2_with fail
  refine (new_op w0).mono ?_
  rintro e w1 ⟨pb, bm, rfl, hm1, hp1, hb1, hl1⟩
  go_wp2_with fail
  refine (rnew_any w1).mono ?_
  rintro e w2 ⟨kb, rfl, hr2, hk2, hl2⟩
  have hs1 := hl1.size
  have A2 : LaidAt w V pb bm kb [] [] w2 := ⟨(sc0.below hl1).below hl2, hm1.below hl2, hr2.mono (by omega), (lo0.trans (hl1.mono lo0.size)).trans (hl2.mono (by omega)), by omega, by omega, by have := hl2.size; omega⟩
  clear sc0 lo0 hm1 hr2 hl1 hl2 hs1
  go_wp2_with fail
  refine wp_region_noPanic ?_
  refine wp_region_held_drew (S := fun W => SceneAt W w.heap.size V) (by kernel_rfl) (show SceneAt w2.drew w.heap.size V from A2.sc) (fun s0 => ?_)
  refine wpAnyH_takeAt (i := 0) (v := ?_) rfl (by kernel_rfl) (by kernel_rfl) (by kernel_rfl) (fun _ _ _ h => h) (Or.inl ⟨by rfl, ?_⟩) s0 ?_
  rotate_left 1
  · intro w' hS; have q1 : w'.cell? ⟨w.heap.size, 33, none⟩ = some (.int .u32 (V.a.toNat : Int)) := SceneAt.a hS; have q2 : w'.cell? ⟨w.heap.size, 35, none⟩ = some (.string V.s) := SceneAt.s hS; clear hS
    go_simp <;> with_reducible rfl
  try simp only [Act.put, List.setIfInBounds_toArray, List.set_cons_zero, List.set_cons_succ]
  refine wpAnyH_takeAt (i := 1) (v := ?_) rfl (by kernel_rfl) (by kernel_rfl) (by kernel_rfl) (fun _ _ _ h => h) (Or.inl ⟨by rfl, ?_⟩) s0 ?_
  rotate_left 1
  · intro w' hS; have q1 : w'.cell? ⟨w.heap.size, 33, none⟩ = some (.int .u32 (V.a.toNat : Int)) := SceneAt.a hS; have q2 : w'.cell? ⟨w.heap.size, 35, none⟩ = some (.string V.s) := SceneAt.s hS; clear hS
    go_simp <;> with_reducible rfl
  try simp only [Act.put, List.setIfInBounds_toArray, List.set_cons_zero, List.set_cons_succ]
  refine wpAnyH_takeAt (i := 2) (v := ?_) rfl (by kernel_rfl) (by kernel_rfl) (by kernel_rfl) (fun _ _ _ h => h) (Or.inl ⟨by rfl, ?_⟩) s0 ?_
  rotate_left 1
  · intro w' hS; have q1 : w'.cell? ⟨w.heap.size, 33, none⟩ = some (.int .u32 (V.a.toNat : Int)) := SceneAt.a hS; have q2 : w'.cell? ⟨w.heap.size, 35, none⟩ = some (.string V.s) := SceneAt.s hS; clear hS
    go_simp <;> with_reducible rfl
  try simp only [Act.put, List.setIfInBounds_toArray, List.set_cons_zero, List.set_cons_succ]
  refine wpAnyH_takeAt (i := 3) (v := ?_) rfl (by kernel_rfl) (by kernel_rfl) (by kernel_rfl) (fun _ _ _ h => h) (Or.inl ⟨by rfl, ?_⟩) s0 ?_
  rotate_left 1
  · intro w' hS; have q1 : w'.cell? ⟨w.heap.size, 33, none⟩ = some (.int .u32 (V.a.toNat : Int)) := SceneAt.a hS; have q2 : w'.cell? ⟨w.heap.size, 35, none⟩ = some (.string V.s) := SceneAt.s hS; clear hS
    go_simp <;> with_reducible rfl
  try simp only [Act.put, List.setIfInBounds_toArray, List.set_cons_zero, List.set_cons_succ]
  refine wpAnyH_takeAt (i := 4) (v := ?_) rfl (by kernel_rfl) (by kernel_rfl) (by kernel_rfl) (fun _ _ _ h => h) (Or.inl ⟨by rfl, ?_⟩) s0 ?_
  rotate_left 1
  · intro w' hS; have q1 : w'.cell? ⟨w.heap.size, 33, none⟩ = some (.int .u32 (V.a.toNat : Int)) := SceneAt.a hS; have q2 : w'.cell? ⟨w.heap.size, 35, none⟩ = some (.string V.s) := SceneAt.s hS; clear hS
    go_simp <;> with_reducible rfl
  try simp only [Act.put, List.setIfInBounds_toArray, List.set_cons_zero, List.set_cons_succ]
  refine wpAnyH_takeAt (i := 5) (v := ?_) rfl (by kernel_rfl) (by kernel_rfl) (by kernel_rfl) (fun _ _ _ h => h) (Or.inl ⟨by rfl, ?_⟩) s0 ?_
  rotate_left 1
  · intro w' hS; have q1 : w'.cell? ⟨w.heap.size, 33, none⟩ = some (.int .u32 (V.a.toNat : Int)) := SceneAt.a hS; have q2 : w'.cell? ⟨w.heap.size, 35, none⟩ = some (.string V.s) := SceneAt.s hS; clear hS
    go_simp <;> with_reducible rfl
  try simp only [Act.put, List.setIfInBounds_toArray, List.set_cons_zero, List.set_cons_succ]
  refine wpAnyH_takeAt (i := 6) (v := ?_) rfl (by kernel_rfl) (by kernel_rfl) (by kernel_rfl) (fun _ _ _ h => h) (Or.inl ⟨by rfl, ?_⟩) s0 ?_
  rotate_left 1
  · intro w' hS; have q1 : w'.cell? ⟨w.heap.size, 33, none⟩ = some (.int .u32 (V.a.toNat : Int)) := SceneAt.a hS; have q2 : w'.cell? ⟨w.heap.size, 35, none⟩ = some (.string V.s) := SceneAt.s hS; clear hS
    go_simp <;> with_reducible rfl
  try simp only [Act.put, List.setIfInBounds_toArray, List.set_cons_zero, List.set_cons_succ]
  refine wpAnyH_takeAt (i := 7) (v := ?_) rfl (by kernel_rfl) (by kernel_rfl) (by kernel_rfl) (fun _ _ _ h => h) (Or.inl ⟨by rfl, ?_⟩) s0 ?_
  rotate_left 1
  · intro w' hS; have q1 : w'.cell? ⟨w.heap.size, 33, none⟩ = some (.int .u32 (V.a.toNat : Int)) := SceneAt.a hS; have q2 : w'.cell? ⟨w.heap.size, 35, none⟩ = some (.string V.s) := SceneAt.s hS; clear hS
    go_simp <;> with_reducible rfl
  try simp only [Act.put, List.setIfInBounds_toArray, List.set_cons_zero, List.set_cons_succ]
  refine wpAnyH_takeAt (i := 8) (v := ?_) rfl (by kernel_rfl) (by kernel_rfl) (by kernel_rfl) (fun _ _ _ h => h) (Or.inl ⟨by rfl, ?_⟩) s0 ?_
  rotate_left 1
  · intro w' hS; have q1 : w'.cell? ⟨w.heap.size, 33, none⟩ = some (.int .u32 (V.a.toNat : Int)) := SceneAt.a hS; have q2 : w'.cell? ⟨w.heap.size, 35, none⟩ = some (.string V.s) := SceneAt.s hS; clear hS
    go_simp <;> with_reducible rfl
  try simp only [Act.put, List.setIfInBounds_toArray, List.set_cons_zero, List.set_cons_succ]
  refine wpAnyH_takeAt (i := 9) (v := ?_) rfl (by kernel_rfl) (by kernel_rfl) (by kernel_rfl) (fun _ _ _ h => h) (Or.inl ⟨by rfl, ?_⟩) s0 ?_
  rotate_left 1
  · intro w' hS; have q1 : w'.cell? ⟨w.heap.size, 33, none⟩ = some (.int .u32 (V.a.toNat : Int)) := SceneAt.a hS; have q2 : w'.cell? ⟨w.heap.size, 35, none⟩ = some (.string V.s) := SceneAt.s hS; clear hS
    go_simp <;> with_reducible rfl
  try simp only [Act.put, List.setIfInBounds_toArray, List.set_cons_zero, List.set_cons_succ]
  refine wpAnyH_ready (rs := [10]) (by kernel_rfl) (by simp) (allReady_at rfl (fun K hK => ?_))
  go_simp
  refine (mput_any _ A2.drew.mem ⟨by omega, Wd.lt V.a⟩ (cutT_size V.s 120 (by omega))).mono ?_
  rintro e w3 ⟨rfl, hm, hg⟩
  have A3 := A2.drew.mput hm hg
  dsimp only
  refine hK.out _ _ A3.sc (fun _ => ?_)
  clear hK K hm hg s0
  try simp only [Act.put, List.setIfInBounds_toArray, List.set_cons_zero, List.set_cons_succ]
  refine wpAnyH_done (by kernel_rfl) ?_ _
  refine NoPanic.normal ?_
  clear A2
  go_wp2_with fail
  refine wp_region_noPanic ?_
  refine wp_region_held_drew (S := fun W => SceneAt W w.heap.size V) (by kernel_rfl) (show SceneAt w3.drew w.heap.size V from A3.sc) (fun s0 => ?_)
  refine wpAnyH_takeAt (i := 0) (v := ?_) rfl (by kernel_rfl) (by kernel_rfl) (by kernel_rfl) (fun _ _ _ h => h) (Or.inl ⟨by rfl, ?_⟩) s0 ?_
  rotate_left 1
  · intro w' hS; have q1 : w'.cell? ⟨w.heap.size, 33, none⟩ = some (.int .u32 (V.a.toNat : Int)) := SceneAt.a hS; have q2 : w'.cell? ⟨w.heap.size, 35, none⟩ = some (.string V.s) := SceneAt.s hS; clear hS
    go_simp <;> with_reducible rfl
  try simp only [Act.put, List.setIfInBounds_toArray, List.set_cons_zero, List.set_cons_succ]
  refine wpAnyH_takeAt (i := 1) (v := ?_) rfl (by kernel_rfl) (by kernel_rfl) (by kernel_rfl) (fun _ _ _ h => h) (Or.inl ⟨by rfl, ?_⟩) s0 ?_
  rotate_left 1
  · intro w' hS; have q1 : w'.cell? ⟨w.heap.size, 33, none⟩ = some (.int .u32 (V.a.toNat : Int)) := SceneAt.a hS; have q2 : w'.cell? ⟨w.heap.size, 35, none⟩ = some (.string V.s) := SceneAt.s hS; clear hS
    go_simp <;> with_reducible rfl
  try simp only [Act.put, List.setIfInBounds_toArray, List.set_cons_zero, List.set_cons_succ]
  refine wpAnyH_takeAt (i := 2) (v := ?_) rfl (by kernel_rfl) (by kernel_rfl) (by kernel_rfl) (fun _ _ _ h => h) (Or.inl ⟨by rfl, ?_⟩) s0 ?_
  rotate_left 1
  · intro w' hS; have q1 : w'.cell? ⟨w.heap.size, 33, none⟩ = some (.int .u32 (V.a.toNat : Int)) := SceneAt.a hS; have q2 : w'.cell? ⟨w.heap.size, 35, none⟩ = some (.string V.s) := SceneAt.s hS; clear hS
    go_simp <;> with_reducible rfl
  try simp only [Act.put, List.setIfInBounds_toArray, List.set_cons_zero, List.set_cons_succ]
  refine wpAnyH_takeAt (i := 3) (v := ?_) rfl (by kernel_rfl) (by kernel_rfl) (by kernel_rfl) (fun _ _ _ h => h) (Or.inl ⟨by rfl, ?_⟩) s0 ?_
  rotate_left 1
  · intro w' hS; have q1 : w'.cell? ⟨w.heap.size, 33, none⟩ = some (.int .u32 (V.a.toNat : Int)) := SceneAt.a hS; have q2 : w'.cell? ⟨w.heap.size, 35, none⟩ = some (.string V.s) := SceneAt.s hS; clear hS
    go_simp <;> with_reducible rfl
  try simp only [Act.put, List.setIfInBounds_toArray, List.set_cons_zero, List.set_cons_succ]
  refine wpAnyH_takeAt (i := 4) (v := ?_) rfl (by kernel_rfl) (by kernel_rfl) (by kernel_rfl) (fun _ _ _ h => h) (Or.inl ⟨by rfl, ?_⟩) s0 ?_
  rotate_left 1
  · intro w' hS; have q1 : w'.cell? ⟨w.heap.size, 33, none⟩ = some (.int .u32 (V.a.toNat : Int)) := SceneAt.a hS; have q2 : w'.cell? ⟨w.heap.size, 35, none⟩ = some (.string V.s) := SceneAt.s hS; clear hS
    go_simp <;> with_reducible rfl
  try simp only [Act.put, List.setIfInBounds_toArray, List.set_cons_zero, List.set_cons_succ]
  refine wpAnyH_takeAt (i := 5) (v := ?_) rfl (by kernel_rfl) (by kernel_rfl) (by kernel_rfl) (fun _ _ _ h => h) (Or.inl ⟨by rfl, ?_⟩) s0 ?_
  rotate_left 1
  · intro w' hS; have q1 : w'.cell? ⟨w.heap.size, 33, none⟩ = some (.int .u32 (V.a.toNat : Int)) := SceneAt.a hS; have q2 : w'.cell? ⟨w.heap.size, 35, none⟩ = some (.string V.s) := SceneAt.s hS; clear hS
    go_simp <;> with_reducible rfl
  try simp only [Act.put, List.setIfInBounds_toArray, List.set_cons_zero, List.set_cons_succ]
  refine wpAnyH_takeAt (i := 6) (v := ?_) rfl (by kernel_rfl) (by kernel_rfl) (by kernel_rfl) (fun _ _ _ h => h) (Or.inl ⟨by rfl, ?_⟩) s0 ?_
  rotate_left 1
  · intro w' hS; have q1 : w'.cell? ⟨w.heap.size, 33, none⟩ = some (.int .u32 (V.a.toNat : Int)) := SceneAt.a hS; have q2 : w'.cell? ⟨w.heap.size, 35, none⟩ = some (.string V.s) := SceneAt.s hS; clear hS
    go_simp <;> with_reducible rfl
  try simp only [Act.put, List.setIfInBounds_toArray, List.set_cons_zero, List.set_cons_succ]
  refine wpAnyH_takeAt (i := 7) (v := ?_) rfl (by kernel_rfl) (by kernel_rfl) (by kernel_rfl) (fun _ _ _ h => h) (Or.inl ⟨by rfl, ?_⟩) s0 ?_
  rotate_left 1
  · intro w' hS; have q1 : w'.cell? ⟨w.heap.size, 33, none⟩ = some (.int .u32 (V.a.toNat : Int)) := SceneAt.a hS; have q2 : w'.cell? ⟨w.heap.size, 35, none⟩ = some (.string V.s) := SceneAt.s hS; clear hS
    go_simp <;> with_reducible rfl
  try simp only [Act.put, List.setIfInBounds_toArray, List.set_cons_zero, List.set_cons_succ]
  refine wpAnyH_takeAt (i := 8) (v := ?_) rfl (by kernel_rfl) (by kernel_rfl) (by kernel_rfl) (fun _ _ _ h => h) (Or.inl ⟨by rfl, ?_⟩) s0 ?_
  rotate_left 1
  · intro w' hS; have q1 : w'.cell? ⟨w.heap.size, 33, none⟩ = some (.int .u32 (V.a.toNat : Int)) := SceneAt.a hS; have q2 : w'.cell? ⟨w.heap.size, 35, none⟩ = some (.string V.s) := SceneAt.s hS; clear hS
    go_simp <;> with_reducible rfl
  try simp only [Act.put, List.setIfInBounds_toArray, List.set_cons_zero, List.set_cons_succ]
  refine wpAnyH_takeAt (i := 9) (v := ?_) rfl (by kernel_rfl) (by kernel_rfl) (by kernel_rfl) (fun _ _ _ h => h) (Or.inl ⟨by rfl, ?_⟩) s0 ?_
  rotate_left 1
  · intro w' hS; have q1 : w'.cell? ⟨w.heap.size, 33, none⟩ = some (.int .u32 (V.a.toNat : Int)) := SceneAt.a hS; have q2 : w'.cell? ⟨w.heap.size, 35, none⟩ = some (.string V.s) := SceneAt.s hS; clear hS
    go_simp <;> with_reducible rfl
  try simp only [Act.put, List.setIfInBounds_toArray, List.set_cons_zero, List.set_cons_succ]
  refine wpAnyH_ready (rs := [10]) (by kernel_rfl) (by simp) (allReady_at rfl (fun K hK => ?_))
  go_simp
  refine (rmput_any _ A3.drew.ref ⟨by omega, Wd.lt V.a⟩ (cutT_size V.s 120 (by omega)) A3.drew.sz).mono ?_
  rintro e w4 ⟨rfl, hm, hg⟩
  have A4 := A3.drew.rput hm hg
  dsimp only
  refine hK.out _ _ A4.sc (fun _ => ?_)
  clear hK K hm hg s0
  try simp only [Act.put, List.setIfInBounds_toArray, List.set_cons_zero, List.set_cons_succ]
  refine wpAnyH_done (by kernel_rfl) ?_ _
  refine NoPanic.normal ?_
  clear A3
  go_wp2_with fail
  refine wp_region_noPanic ?_
  refine wp_region_held_drew (S := fun W => SceneAt W w.heap.size V) (by kernel_rfl) (show SceneAt w4.drew w.heap.size V from A4.sc) (fun s0 => ?_)
  refine wpAnyH_takeAt (i := 0) (v := ?_) rfl (by kernel_rfl) (by kernel_rfl) (by kernel_rfl) (fun _ _ _ h => h) (Or.inl ⟨by rfl, ?_⟩) s0 ?_
  rotate_left 1
  · intro w' hS; have q1 : w'.cell? ⟨w.heap.size, 34, none⟩ = some (.int .u32 (V.b.toNat : Int)) := SceneAt.b hS; have q2 : w'.cell? ⟨w.heap.size, 36, none⟩ = some (.string V.t) := SceneAt.t hS; clear hS
    go_simp <;> with_reducible rfl
  try simp only [Act.put, List.setIfInBounds_toArray, List.set_cons_zero, List.set_cons_succ]
  refine wpAnyH_takeAt (i := 1) (v := ?_) rfl (by kernel_rfl) (by kernel_rfl) (by kernel_rfl) (fun _ _ _ h => h) (Or.inl ⟨by rfl, ?_⟩) s0 ?_
  rotate_left 1
  · intro w' hS; have q1 : w'.cell? ⟨w.heap.size, 34, none⟩ = some (.int .u32 (V.b.toNat : Int)) := SceneAt.b hS; have q2 : w'.cell? ⟨w.heap.size, 36, none⟩ = some (.string V.t) := SceneAt.t hS; clear hS
    go_simp <;> with_reducible rfl
  try simp only [Act.put, List.setIfInBounds_toArray, List.set_cons_zero, List.set_cons_succ]
  refine wpAnyH_takeAt (i := 2) (v := ?_) rfl (by kernel_rfl) (by kernel_rfl) (by kernel_rfl) (fun _ _ _ h => h) (Or.inl ⟨by rfl, ?_⟩) s0 ?_
  rotate_left 1
  · intro w' hS; have q1 : w'.cell? ⟨w.heap.size, 34, none⟩ = some (.int .u32 (V.b.toNat : Int)) := SceneAt.b hS; have q2 : w'.cell? ⟨w.heap.size, 36, none⟩ = some (.string V.t) := SceneAt.t hS; clear hS
    go_simp <;> with_reducible rfl
  try simp only [Act.put, List.setIfInBounds_toArray, List.set_cons_zero, List.set_cons_succ]
  refine wpAnyH_takeAt (i := 3) (v := ?_) rfl (by kernel_rfl) (by kernel_rfl) (by kernel_rfl) (fun _ _ _ h => h) (Or.inl ⟨by rfl, ?_⟩) s0 ?_
  rotate_left 1
  · intro w' hS; have q1 : w'.cell? ⟨w.heap.size, 34, none⟩ = some (.int .u32 (V.b.toNat : Int)) := SceneAt.b hS; have q2 : w'.cell? ⟨w.heap.size, 36, none⟩ = some (.string V.t) := SceneAt.t hS; clear hS
    go_simp <;> with_reducible rfl
  try simp only [Act.put, List.setIfInBounds_toArray, List.set_cons_zero, List.set_cons_succ]
  refine wpAnyH_takeAt (i := 4) (v := ?_) rfl (by kernel_rfl) (by kernel_rfl) (by kernel_rfl) (fun _ _ _ h => h) (Or.inl ⟨by rfl, ?_⟩) s0 ?_
  rotate_left 1
  · intro w' hS; have q1 : w'.cell? ⟨w.heap.size, 34, none⟩ = some (.int .u32 (V.b.toNat : Int)) := SceneAt.b hS; have q2 : w'.cell? ⟨w.heap.size, 36, none⟩ = some (.string V.t) := SceneAt.t hS; clear hS
    go_simp <;> with_reducible rfl
  try simp only [Act.put, List.setIfInBounds_toArray, List.set_cons_zero, List.set_cons_succ]
  refine wpAnyH_takeAt (i := 5) (v := ?_) rfl (by kernel_rfl) (by kernel_rfl) (by kernel_rfl) (fun _ _ _ h => h) (Or.inl ⟨by rfl, ?_⟩) s0 ?_
  rotate_left 1
  · intro w' hS; have q1 : w'.cell? ⟨w.heap.size, 34, none⟩ = some (.int .u32 (V.b.toNat : Int)) := SceneAt.b hS; have q2 : w'.cell? ⟨w.heap.size, 36, none⟩ = some (.string V.t) := SceneAt.t hS; clear hS
    go_simp <;> with_reducible rfl
  try simp only [Act.put, List.setIfInBounds_toArray, List.set_cons_zero, List.set_cons_succ]
  refine wpAnyH_takeAt (i := 6) (v := ?_) rfl (by kernel_rfl) (by kernel_rfl) (by kernel_rfl) (fun _ _ _ h => h) (Or.inl ⟨by rfl, ?_⟩) s0 ?_
  rotate_left 1
  · intro w' hS; have q1 : w'.cell? ⟨w.heap.size, 34, none⟩ = some (.int .u32 (V.b.toNat : Int)) := SceneAt.b hS; have q2 : w'.cell? ⟨w.heap.size, 36, none⟩ = some (.string V.t) := SceneAt.t hS; clear hS
    go_simp <;> with_reducible rfl
  try simp only [Act.put, List.setIfInBounds_toArray, List.set_cons_zero, List.set_cons_succ]
  refine wpAnyH_takeAt (i := 7) (v := ?_) rfl (by kernel_rfl) (by kernel_rfl) (by kernel_rfl) (fun _ _ _ h => h) (Or.inl ⟨by rfl, ?_⟩) s0 ?_
  rotate_left 1
  · intro w' hS; have q1 : w'.cell? ⟨w.heap.size, 34, none⟩ = some (.int .u32 (V.b.toNat : Int)) := SceneAt.b hS; have q2 : w'.cell? ⟨w.heap.size, 36, none⟩ = some (.string V.t) := SceneAt.t hS; clear hS
    go_simp <;> with_reducible rfl
  try simp only [Act.put, List.setIfInBounds_toArray, List.set_cons_zero, List.set_cons_succ]
  refine wpAnyH_takeAt (i := 8) (v := ?_) rfl (by kernel_rfl) (by kernel_rfl) (by kernel_rfl) (fun _ _ _ h => h) (Or.inl ⟨by rfl, ?_⟩) s0 ?_
  rotate_left 1
  · intro w' hS; have q1 : w'.cell? ⟨w.heap.size, 34, none⟩ = some (.int .u32 (V.b.toNat : Int)) := SceneAt.b hS; have q2 : w'.cell? ⟨w.heap.size, 36, none⟩ = some (.string V.t) := SceneAt.t hS; clear hS
    go_simp <;> with_reducible rfl
  try simp only [Act.put, List.setIfInBounds_toArray, List.set_cons_zero, List.set_cons_succ]
  refine wpAnyH_takeAt (i := 9) (v := ?_) rfl (by kernel_rfl) (by kernel_rfl) (by kernel_rfl) (fun _ _ _ h => h) (Or.inl ⟨by rfl, ?_⟩) s0 ?_
  rotate_left 1
  · intro w' hS; have q1 : w'.cell? ⟨w.heap.size, 34, none⟩ = some (.int .u32 (V.b.toNat : Int)) := SceneAt.b hS; have q2 : w'.cell? ⟨w.heap.size, 36, none⟩ = some (.string V.t) := SceneAt.t hS; clear hS
    go_simp <;> with_reducible rfl
  try simp only [Act.put, List.setIfInBounds_toArray, List.set_cons_zero, List.set_cons_succ]
  refine wpAnyH_ready (rs := [10]) (by kernel_rfl) (by simp) (allReady_at rfl (fun K hK => ?_))
  go_simp
  refine (mput_any _ A4.drew.mem ⟨by omega, Wd.lt V.b⟩ (cutT_size V.t 40 (by omega))).mono ?_
  rintro e w5 ⟨rfl, hm, hg⟩
  have A5 := A4.drew.mput hm hg
  dsimp only
  refine hK.out _ _ A5.sc (fun _ => ?_)
  clear hK K hm hg s0
  try simp only [Act.put, List.setIfInBounds_toArray, List.set_cons_zero, List.set_cons_succ]
  refine wpAnyH_done (by kernel_rfl) ?_ _
  refine NoPanic.normal ?_
  clear A4
  go_wp2_with fail
  refine wp_region_noPanic ?_
  refine wp_region_held_drew (S := fun W => SceneAt W w.heap.size V) (by kernel_rfl) (show SceneAt w5.drew w.heap.size V from A5.sc) (fun s0 => ?_)
  refine wpAnyH_takeAt (i := 0) (v := ?_) rfl (by kernel_rfl) (by kernel_rfl) (by kernel_rfl) (fun _ _ _ h => h) (Or.inl ⟨by rfl, ?_⟩) s0 ?_
  rotate_left 1
  · intro w' hS; have q1 : w'.cell? ⟨w.heap.size, 34, none⟩ = some (.int .u32 (V.b.toNat : Int)) := SceneAt.b hS; have q2 : w'.cell? ⟨w.heap.size, 36, none⟩ = some (.string V.t) := SceneAt.t hS; clear hS
    go_simp <;> with_reducible rfl
  try simp only [Act.put, List.setIfInBounds_toArray, List.set_cons_zero, List.set_cons_succ]
  refine wpAnyH_takeAt (i := 1) (v := ?_) rfl (by kernel_rfl) (by kernel_rfl) (by kernel_rfl) (fun _ _ _ h => h) (Or.inl ⟨by rfl, ?_⟩) s0 ?_
  rotate_left 1
  · intro w' hS; have q1 : w'.cell? ⟨w.heap.size, 34, none⟩ = some (.int .u32 (V.b.toNat : Int)) := SceneAt.b hS; have q2 : w'.cell? ⟨w.heap.size, 36, none⟩ = some (.string V.t) := SceneAt.t hS; clear hS
    go_simp <;> with_reducible rfl
  try simp only [Act.put, List.setIfInBounds_toArray, List.set_cons_zero, List.set_cons_succ]
  refine wpAnyH_takeAt (i := 2) (v := ?_) rfl (by kernel_rfl) (by kernel_rfl) (by kernel_rfl) (fun _ _ _ h => h) (Or.inl ⟨by rfl, ?_⟩) s0 ?_
  rotate_left 1
  · intro w' hS; have q1 : w'.cell? ⟨w.heap.size, 34, none⟩ = some (.int .u32 (V.b.toNat : Int)) := SceneAt.b hS; have q2 : w'.cell? ⟨w.heap.size, 36, none⟩ = some (.string V.t) := SceneAt.t hS; clear hS
    go_simp <;> with_reducible rfl
  try simp only [Act.put, List.setIfInBounds_toArray, List.set_cons_zero, List.set_cons_succ]
  refine wpAnyH_takeAt (i := 3) (v := ?_) rfl (by kernel_rfl) (by kernel_rfl) (by kernel_rfl) (fun _ _ _ h => h) (Or.inl ⟨by rfl, ?_⟩) s0 ?_
  rotate_left 1
  · intro w' hS; have q1 : w'.cell? ⟨w.heap.size, 34, none⟩ = some (.int .u32 (V.b.toNat : Int)) := SceneAt.b hS; have q2 : w'.cell? ⟨w.heap.size, 36, none⟩ = some (.string V.t) := SceneAt.t hS; clear hS
    go_simp <;> with_reducible rfl
  try simp only [Act.put, List.setIfInBounds_toArray, List.set_cons_zero, List.set_cons_succ]
  refine wpAnyH_takeAt (i := 4) (v := ?_) rfl (by kernel_rfl) (by kernel_rfl) (by kernel_rfl) (fun _ _ _ h => h) (Or.inl ⟨by rfl, ?_⟩) s0 ?_
  rotate_left 1
  · intro w' hS; have q1 : w'.cell? ⟨w.heap.size, 34, none⟩ = some (.int .u32 (V.b.toNat : Int)) := SceneAt.b hS; have q2 : w'.cell? ⟨w.heap.size, 36, none⟩ = some (.string V.t) := SceneAt.t hS; clear hS
    go_simp <;> with_reducible rfl
  try simp only [Act.put, List.setIfInBounds_toArray, List.set_cons_zero, List.set_cons_succ]
  refine wpAnyH_takeAt (i := 5) (v := ?_) rfl (by kernel_rfl) (by kernel_rfl) (by kernel_rfl) (fun _ _ _ h => h) (Or.inl ⟨by rfl, ?_⟩) s0 ?_
  rotate_left 1
  · intro w' hS; have q1 : w'.cell? ⟨w.heap.size, 34, none⟩ = some (.int .u32 (V.b.toNat : Int)) := SceneAt.b hS; have q2 : w'.cell? ⟨w.heap.size, 36, none⟩ = some (.string V.t) := SceneAt.t hS; clear hS
    go_simp <;> with_reducible rfl
  try simp only [Act.put, List.setIfInBounds_toArray, List.set_cons_zero, List.set_cons_succ]
  refine wpAnyH_takeAt (i := 6) (v := ?_) rfl (by kernel_rfl) (by kernel_rfl) (by kernel_rfl) (fun _ _ _ h => h) (Or.inl ⟨by rfl, ?_⟩) s0 ?_
  rotate_left 1
  · intro w' hS; have q1 : w'.cell? ⟨w.heap.size, 34, none⟩ = some (.int .u32 (V.b.toNat : Int)) := SceneAt.b hS; have q2 : w'.cell? ⟨w.heap.size, 36, none⟩ = some (.string V.t) := SceneAt.t hS; clear hS
    go_simp <;> with_reducible rfl
  try simp only [Act.put, List.setIfInBounds_toArray, List.set_cons_zero, List.set_cons_succ]
  refine wpAnyH_takeAt (i := 7) (v := ?_) rfl (by kernel_rfl) (by kernel_rfl) (by kernel_rfl) (fun _ _ _ h => h) (Or.inl ⟨by rfl, ?_⟩) s0 ?_
  rotate_left 1
  · intro w' hS; have q1 : w'.cell? ⟨w.heap.size, 34, none⟩ = some (.int .u32 (V.b.toNat : Int)) := SceneAt.b hS; have q2 : w'.cell? ⟨w.heap.size, 36, none⟩ = some (.string V.t) := SceneAt.t hS; clear hS
    go_simp <;> with_reducible rfl
  try simp only [Act.put, List.setIfInBounds_toArray, List.set_cons_zero, List.set_cons_succ]
  refine wpAnyH_takeAt (i := 8) (v := ?_) rfl (by kernel_rfl) (by kernel_rfl) (by kernel_rfl) (fun _ _ _ h => h) (Or.inl ⟨by rfl, ?_⟩) s0 ?_
  rotate_left 1
  · intro w' hS; have q1 : w'.cell? ⟨w.heap.size, 34, none⟩ = some (.int .u32 (V.b.toNat : Int)) := SceneAt.b hS; have q2 : w'.cell? ⟨w.heap.size, 36, none⟩ = some (.string V.t) := SceneAt.t hS; clear hS
    go_simp <;> with_reducible rfl
  try simp only [Act.put, List.setIfInBounds_toArray, List.set_cons_zero, List.set_cons_succ]
  refine wpAnyH_takeAt (i := 9) (v := ?_) rfl (by kernel_rfl) (by kernel_rfl) (by kernel_rfl) (fun _ _ _ h => h) (Or.inl ⟨by rfl, ?_⟩) s0 ?_
  rotate_left 1
  · intro w' hS; have q1 : w'.cell? ⟨w.heap.size, 34, none⟩ = some (.int .u32 (V.b.toNat : Int)) := SceneAt.b hS; have q2 : w'.cell? ⟨w.heap.size, 36, none⟩ = some (.string V.t) := SceneAt.t hS; clear hS
    go_simp <;> with_reducible rfl
  try simp only [Act.put, List.setIfInBounds_toArray, List.set_cons_zero, List.set_cons_succ]
  refine wpAnyH_ready (rs := [10]) (by kernel_rfl) (by simp) (allReady_at rfl (fun K hK => ?_))
  go_simp
  refine (rmput_any _ A5.drew.ref ⟨by omega, Wd.lt V.b⟩ (cutT_size V.t 40 (by omega)) A5.drew.sz).mono ?_
  rintro e w6 ⟨rfl, hm, hg⟩
  have A6 := A5.drew.rput hm hg
  dsimp only
  refine hK.out _ _ A6.sc (fun _ => ?_)
  clear hK K hm hg s0
  try simp only [Act.put, List.setIfInBounds_toArray, List.set_cons_zero, List.set_cons_succ]
  refine wpAnyH_done (by kernel_rfl) ?_ _
  refine NoPanic.normal ?_
  clear A5
  go_wp2_with fail
  go_ret2
  exact A6.told
end Go.Proofs.YtilphdfobflbiaaGreat
namespace Go.Proofs.YtilphdfobflbiaaGreat
open Go.RowKit Go.Maps Cp Ip Mm
set_option linter.unusedSimpArgs false

theorem infoW0 : (Tryz.prog.info? 28).map (·.size) = some 39 := by kernel_rfl
theorem wcells_size (V : Scene) : (wcells V).size = 39 := by simp [wcells, cells_list, restL, cells_size]
theorem infoW (V : Scene) : (Tryz.prog.info? 28).map (·.size) = some (wcells V).size := by rw [wcells_size]; exact infoW0
theorem wpList_load_cpu {ops : Array Oper} {rest : List Oper} {o : Oper} {a : Act} {w : World} {Q : Exit → Act → World → Prop} (hw : Region.wanted o (yielded ops a.tmps) = true) (x : Operand) (ho : o.op = .load 25 x)
    (g : Nat) (hx : a.eval x = .pointer (some ⟨g, 0, none⟩)) (V : Scene) (hs : SceneAt w g V)
    (h : wpList Tryz.prog ops Q rest (a.put o.dst (.agg (cells V.c))) w) : wpList Tryz.prog ops Q (o :: rest) a w :=
  wpList_load_midG hw 25 x ho g 0 hx (cells V.c).toList _ hs.cpu Tryz.underlying25 rfl (by rw [cells_list]; exact infoC) (by simpa using h)
theorem AnsAt.below {w w' : World} {v : Value} {zs : List (BitVec 32)} (h : AnsAt w v zs) (hb : Below w.heap.size w w') : AnsAt w' v zs := by
  obtain ⟨ad, cap, e, hc, f⟩ := h
  refine ⟨ad, cap, e, hc, fun i hi => ?_⟩
  obtain ⟨b, o, e, q⟩ := f i hi
  refine ⟨b, o, e, ?_⟩
  have hlt := block_lt_of_cell q
  rw [← q]
  unfold World.cell?
  rw [hb.block b hlt]
theorem SceneOk.below {w w' : World} {V : Scene} (h : SceneOk w V) (hb : Below w.heap.size w w') : SceneOk w' V := ⟨h.ans.below hb, h.ss, h.ts, h.zl, h.f0, h.f1⟩
theorem LaidR.low {w w' : World} {V : Scene} {e : Ending} (h : LaidR w V e w') : Below w.heap.size w w' := by
  obtain ⟨_, _, _, _, _, _, _, _, h⟩ := h; exact h
theorem box_new2 (W : World) (d : Mach) : Below W.heap.size W ((W.alloc (.cells (cells nought) 25)).setRow W.heap.size (cells d)) ∧ BoxC ((W.alloc (.cells (cells nought) 25)).setRow W.heap.size (cells d)) W.heap.size d :=
  ⟨below_row ((Below.refl _ _).alloc (Nat.le_refl _) _) (Nat.le_refl _) _, (Box.new W nought).setRow d⟩
theorem own_below {W W' : World} {B : Nat} {t : TypeId} {k : Nat} {v : Value} {n : Nat} {xs : List Value} (h : W.ownsRow B t k v n xs) (hb : Below W.heap.size W W') : W'.ownsRow B t k v n xs :=
  h.kept (row := none) ⟨hb.os, hb.tape, hb.output, hb.size, fun k hk _ => hb.block k hk⟩ (by cases v.ownBlock <;> simp)

/-- How many of the first k registers differ. -/
def diff (c d : Mach) : Nat → Nat
  | 0 => 0
  | k + 1 => if c.x k = d.x k then diff c d k else diff c d k + 1
theorem diff_one {c d : Mach} {r : Nat} (h : ∀ i, i ≠ r → c.x i = d.x i) : ∀ k, diff c d k ≤ 1 ∧ (k ≤ r → diff c d k = 0)
  | 0 => ⟨by simp [diff], fun _ => rfl⟩
  | k + 1 => by
    obtain ⟨h1, h2⟩ := diff_one h k
    unfold diff
    by_cases hk : k = r
    · subst hk
      have h0 := h2 (Nat.le_refl _)
      split
      · exact ⟨h1, fun h => by omega⟩
      · exact ⟨by omega, fun h => by omega⟩
    · rw [if_pos (h k hk)]
      exact ⟨h1, fun hr => h2 (by omega)⟩
theorem diff_same {c d : Mach} (h : ∀ i, c.x i = d.x i) : ∀ k, diff c d k = 0
  | 0 => rfl
  | k + 1 => by unfold diff; rw [if_pos (h k), diff_same h k]
theorem diff_le (c d : Mach) : ∀ k, diff c d k ≤ k
  | 0 => Nat.le_refl _
  | k + 1 => by unfold diff; have := diff_le c d k; split <;> omega
end Go.Proofs.YtilphdfobflbiaaGreat
