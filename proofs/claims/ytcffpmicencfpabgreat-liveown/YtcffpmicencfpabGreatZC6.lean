/-
  Contract of blocks.reached: all reached addresses, with what stands there.
-/

import Derived.Test.YtcffpmicencfpabGreatZC5
namespace Go.Proofs.YtcffpmicencfpabGreat
open Go.RowKit Go.Lib Go.Sort Go.Maps Ip Bl Pm
set_option linter.unusedSimpArgs false
set_option linter.unusedVariables false

def seedsI (i : Img) (es : List Nat) : List Nat := i.entry.toNat :: es
/-- Behind the first k entries. -/
def EntE (i : Img) (es : List Nat) (k : Nat) (E : List (Nat × Bool)) : Prop := ∀ p, p ∈ E ↔ p.2 = true ∧ (p.1 = i.entry.toNat ∨ p.1 ∈ es.take k)
theorem entE_step {i : Img} {es : List Nat} {k x : Nat} {E : List (Nat × Bool)} (h : EntE i es k E) (hk : es[k]? = some x) : EntE i es (k + 1) (E ++ [(x, true)]) := fun p => by
  rw [List.mem_append, h p, List.take_add_one, hk]
  simp only [List.mem_singleton, Option.toList_some, List.mem_append]
  constructor
  · rintro (⟨h1, h2 | h2⟩ | rfl)
    · exact ⟨h1, .inl h2⟩
    · exact ⟨h1, .inr (.inl h2)⟩
    · exact ⟨rfl, .inr (.inr rfl)⟩
  · rintro ⟨h1, h2 | h2 | h2⟩
    · exact .inl ⟨h1, .inl h2⟩
    · exact .inl ⟨h1, .inr h2⟩
    · exact .inr (by obtain ⟨a, b⟩ := p; simp at h1 h2; rw [h1, h2])
theorem entE_end {i : Img} {es : List Nat} {E : List (Nat × Bool)} (T : Tx) (h : EntE i es es.length E) : Edges T (seedsI i es) [] E := fun p => by
  rw [h p, List.take_length]
  unfold seedsI
  rw [List.mem_cons]
  constructor
  · exact fun ⟨h1, h2⟩ => .inl ⟨h2, h1⟩
  · rintro (⟨h1, h2⟩ | ⟨b, hb, _⟩)
    · exact ⟨h2, h1⟩
    · simp at hb
/-- Behind the first k of what stands behind b. -/
def SucE (E0 : List (Nat × Bool)) (A : List Nat) (en : Bool) (k : Nat) (E : List (Nat × Bool)) : Prop := ∀ p, p ∈ E ↔ p ∈ E0 ∨ (p.1 ∈ A.take k ∧ p.2 = en)
theorem sucE_step {E0 E : List (Nat × Bool)} {A : List Nat} {en : Bool} {k x : Nat} (h : SucE E0 A en k E) (hk : A[k]? = some x) : SucE E0 A en (k + 1) (E ++ [(x, en)]) := fun p => by
  rw [List.mem_append, h p, List.take_add_one, hk]
  simp only [List.mem_singleton, Option.toList_some, List.mem_append]
  constructor
  · rintro ((h1 | ⟨h1, h2⟩) | rfl)
    · exact .inl h1
    · exact .inr ⟨.inl h1, h2⟩
    · exact .inr ⟨.inr rfl, rfl⟩
  · rintro (h1 | ⟨h1 | h1, h2⟩)
    · exact .inl (.inl h1)
    · exact .inl (.inr ⟨h1, h2⟩)
    · exact .inr (by obtain ⟨a, b⟩ := p; simp at h1 h2; rw [h1, h2])
theorem edges_step {T : Tx} {seeds done : List Nat} {E0 E : List (Nat × Bool)} {a : Nat} (h0 : T.err a = 0) (hE : Edges T seeds done E0) (h : SucE E0 (T.suc a) (T.ends a) (T.suc a).length E) : Edges T seeds (a :: done) E := fun p => by
  rw [h p, hE p, List.take_length]
  constructor
  · rintro ((h1 | ⟨b, hb, h1⟩) | ⟨h1, h2⟩)
    · exact .inl h1
    · exact .inr ⟨b, List.mem_cons_of_mem _ hb, h1⟩
    · exact .inr ⟨a, List.mem_cons_self, h0, h1, h2⟩
  · rintro (h1 | ⟨b, hb, h1, h2, h3⟩)
    · exact .inl (.inl h1)
    · rcases List.mem_cons.1 hb with rfl | hb
      · exact .inr ⟨h2, h3⟩
      · exact .inl (.inr ⟨b, hb, h1, h2, h3⟩)
theorem edges_err {T : Tx} {seeds done : List Nat} {E : List (Nat × Bool)} {a : Nat} (h0 : T.err a ≠ 0) (hE : Edges T seeds done E) : Edges T seeds (a :: done) E := fun p => by
  rw [hE p]
  constructor
  · rintro (h1 | ⟨b, hb, h1⟩)
    · exact .inl h1
    · exact .inr ⟨b, List.mem_cons_of_mem _ hb, h1⟩
  · rintro (h1 | ⟨b, hb, h1, h2, h3⟩)
    · exact .inl h1
    · rcases List.mem_cons.1 hb with rfl | hb
      · exact absurd h1 h0
      · exact .inr ⟨b, hb, h1, h2, h3⟩
theorem Rc.val {w : World} {i : Img} {u : Value} {r : Plcs} {wait : List Nat} {v : Value} {W : World} (h : Rc w i u r wait v W) : ∃ p c, v = .slice p wait.length c := own_slice' h.row
/-- In a round: the boxes of the place and of the instruction besides. -/
structure Rb (w : World) (i : Img) (u : Value) (r : Plcs) (wait : List Nat) (v : Value) (g : Nat) (p : Plc) (W : World) : Prop where
  rc : Rc w i u r wait v W
  pb : W.heap[g]? = some (.cells (plcC p) 92 (0, 0))
  gb : w.heap.size + 4 ≤ g
theorem Rb.new {w : World} {i : Img} {u : Value} {r : Plcs} {wait : List Nat} {v : Value} {W : World} (h : Rc w i u r wait v W) (cs : Array Value) (p : Plc) : Rb w i u r wait v W.heap.size p ((W.alloc (.cells cs 92)).setRow W.heap.size (plcC p)) := by
  have hb := heap_alloc_new W (.cells cs 92)
  exact ⟨(h.ext ((Below.refl _ W).alloc (Nat.le_refl _) _)).box h.big hb (by decide) (grown_setRow _ _ _), setRow_heap _ _ _ _ _ _ hb, h.big⟩
theorem Rb.ext {w : World} {i : Img} {u : Value} {r : Plcs} {wait : List Nat} {v : Value} {g : Nat} {p : Plc} {W W' : World} (h : Rb w i u r wait v g p W) (hb : Below W.heap.size W W') : Rb w i u r wait v g p W' := ⟨h.rc.ext hb, keptN hb h.pb, h.gb⟩
theorem Rb.set {w : World} {i : Img} {u : Value} {r : Plcs} {wait : List Nat} {v : Value} {g : Nat} {p : Plc} {W : World} (h : Rb w i u r wait v g p W) (e : Int) (b : Bool) : Rb w i u r wait v g ⟨e, b, p.leads⟩ ((W.setCell ⟨g, 0, none⟩ (.int .i64 e)).setCell ⟨g, 1, none⟩ (.bool b)) := by
  have e1 := heap_setCell_same W g 0 (plcC p) 92 (.int .i64 e) h.pb
  have r1 := h.rc.box h.gb h.pb (by decide) (grown_setCell W ⟨g, 0, none⟩ (.int .i64 e))
  have e2 := heap_setCell_same (W.setCell ⟨g, 0, none⟩ (.int .i64 e)) g 1 _ 92 (.bool b) e1
  exact ⟨r1.box h.gb e1 (by decide) (grown_setCell _ ⟨g, 1, none⟩ (.bool b)), by rw [e2]; rfl, h.gb⟩
theorem Rb.cells {w : World} {i : Img} {u : Value} {r : Plcs} {wait : List Nat} {v : Value} {g : Nat} {p : Plc} {W : World} (h : Rb w i u r wait v g p W) : W.cell? ⟨g, 0, none⟩ = some (.int .i64 p.e) ∧ W.cell? ⟨g, 1, none⟩ = some (.bool p.ends) ∧ W.frozen? ⟨g, 0, none⟩ = false ∧ W.frozen? ⟨g, 1, none⟩ = false := by
  refine ⟨?_, ?_, ?_, ?_⟩
  · simp [World.cell?, h.pb, plcC]
  · simp [World.cell?, h.pb, plcC]
  · simp [World.frozen?, h.pb]
  · simp [World.frozen?, h.pb]
/-- .. and of the instruction. -/
structure Rx (w : World) (i : Img) (u : Value) (r : Plcs) (wait : List Nat) (v : Value) (g : Nat) (p : Plc) (gx : Nat) (x : Ins) (W : World) : Prop where
  rb : Rb w i u r wait v g p W
  xb : W.heap[gx]? = some (.cells (insC x) 38 (0, 0))
  xg : w.heap.size + 4 ≤ gx
  ne : gx ≠ g
theorem Rx.new {w : World} {i : Img} {u : Value} {r : Plcs} {wait : List Nat} {v : Value} {g : Nat} {p : Plc} {W : World} (h : Rb w i u r wait v g p W) (cs : Array Value) (x : Ins) : Rx w i u r wait v g p W.heap.size x ((W.alloc (.cells cs 38)).setRow W.heap.size (insC x)) := by
  have hb := heap_alloc_new W (.cells cs 38)
  have hg := grown_setRow (W.alloc (.cells cs 38)) W.heap.size (insC x)
  have hlt := (Array.getElem?_eq_some_iff.1 h.pb).1
  exact ⟨⟨(h.rc.ext ((Below.refl _ W).alloc (Nat.le_refl _) _)).box h.rc.big hb (by decide) hg, (hg.block g (by rw [World.size_alloc]; omega) (by intro e; injection e; omega)).trans ((Below.heap_alloc _ _ _ hlt).trans h.pb), h.gb⟩, setRow_heap _ _ _ _ _ _ hb, h.rc.big, by omega⟩
theorem Rx.ext {w : World} {i : Img} {u : Value} {r : Plcs} {wait : List Nat} {v : Value} {g : Nat} {p : Plc} {gx : Nat} {x : Ins} {W W' : World} (h : Rx w i u r wait v g p gx x W) (hb : Below W.heap.size W W') : Rx w i u r wait v g p gx x W' := ⟨h.rb.ext hb, keptN hb h.xb, h.xg, h.ne⟩
theorem Rx.set {w : World} {i : Img} {u : Value} {r : Plcs} {wait : List Nat} {v : Value} {g : Nat} {p : Plc} {gx : Nat} {x : Ins} {W : World} (h : Rx w i u r wait v g p gx x W) (e : Int) (b : Bool) : Rx w i u r wait v g ⟨e, b, p.leads⟩ gx x ((W.setCell ⟨g, 0, none⟩ (.int .i64 e)).setCell ⟨g, 1, none⟩ (.bool b)) :=
  ⟨h.rb.set e b, by rw [Below.heap_setCell _ _ _ _ h.ne, Below.heap_setCell _ _ _ _ h.ne]; exact h.xb, h.xg, h.ne⟩
theorem Rx.put {w : World} {i : Img} {u : Value} {r : Plcs} {wait : List Nat} {v : Value} {g : Nat} {p : Plc} {gx : Nat} {x : Ins} {W W' : World} (h : Rx w i u r wait v g p gx x W) {r' : Plcs} (hown : W'.ownsMap Tryz.prog 22 plcElem (w.heap.size + 1) r'.length (D r')) (hg : W.grownBy W' (some (w.heap.size + 1))) : Rx w i u r' wait v g p gx x W' := by
  have h1 := h.xg; have h2 := h.rb.gb
  exact ⟨⟨h.rb.rc.put hown hg, (hg.block g (Array.getElem?_eq_some_iff.1 h.rb.pb).1 (by intro e; injection e; omega)).trans h.rb.pb, h2⟩, (hg.block gx (Array.getElem?_eq_some_iff.1 h.xb).1 (by intro e; injection e; omega)).trans h.xb, h1, h.ne⟩
theorem stands_at (i : Img) (v : Value) (a : Nat) (ha : a < 4294967296) (hi : i.ok) (X : Ins) (hX : insA i a = X) (E : Nat) (hE : errA i a = E) (w : World) (hS : SlW w v i.words) :
    Calls Tryz.prog 48 #[.agg (imgC i v), .int .u32 (a : Int)] w fun e w' => e = .returned (.tuple #[.agg (insC X), .int .i64 (E : Int)]) ∧ Below w.heap.size w w' := by
  subst hX hE
  exact stands_any i v a ha hi w hS
theorem ends_at (X : Ins) (w : World) : Calls Tryz.prog 64 #[.agg (insC X)] w fun e w' => e = .returned (.bool (endsI X)) ∧ Below w.heap.size w w' := ends_any X w
theorem after_at (X : Ins) (a : Nat) (w : World) : Calls Tryz.prog 49 #[.agg (insC X), .int .u32 (a : Int)] w fun e w' => ∃ v, e = .returned v ∧ w'.ownsRow (w.heap.size + 1) 22 1 v (aftI X a).length ((aftI X a).map wordV) ∧ Below w.heap.size w w' := after_any X a w
theorem Rc.row_ne {w : World} {i : Img} {u : Value} {r : Plcs} {wait : List Nat} {v : Value} {W : World} (h : Rc w i u r wait v W) {g : Nat} {cs : Array Value} {t : TypeId} {fr : Nat × Nat} (hbx : W.heap[g]? = some (.cells cs t fr)) (ht : t ≠ 22) : v.ownBlock ≠ some g := fun e => by
  rcases h.row.2 with ⟨e1, _⟩ | ⟨g', cap, cur, e1, _, hb, _⟩
  · rw [e1] at e; cases e
  · rw [e1] at e
    obtain rfl : g' = g := by simpa [Value.ownBlock] using e
    rw [hbx] at hb
    injection hb with hb
    injection hb with _ hb
    exact ht hb
theorem Rb.reach {w : World} {i : Img} {u : Value} {r r' : Plcs} {wait wait' : List Nat} {v v' : Value} {g : Nat} {p : Plc} {W W' : World} (h : Rb w i u r wait v g p W) (hc : Cl (w.heap.size + 1) (w.heap.size + 4) (w.heap.size + 1) (w.heap.size + 2) (w.heap.size + 3) r' wait' v W v' W') : Rb w i u r' wait' v' g p W' :=
  ⟨h.rc.of_cl hc, (hc.fr.blk g (Array.getElem?_eq_some_iff.1 h.pb).1 (by have := h.gb; omega) (by have := h.gb; omega) (h.rc.row_ne h.pb (by decide))).trans h.pb, h.gb⟩
/-- A list of the call's own, apart from that of what waits. -/
structure Ra (w : World) (v va : Value) (n : Nat) (xs : List Value) (W : World) : Prop where
  own : W.ownsRow 0 22 1 va n xs
  apart : ∀ k, va.ownBlock = some k → v.ownBlock ≠ some k ∧ k < W.heap.size ∧ w.heap.size + 4 ≤ k
theorem Ra.reach {w : World} {r' : Plcs} {wait' : List Nat} {v v' va : Value} {n : Nat} {xs : List Value} {W W' : World} (h : Ra w v va n xs W) (hc : Cl (w.heap.size + 1) (w.heap.size + 4) (w.heap.size + 1) (w.heap.size + 2) (w.heap.size + 3) r' wait' v W v' W') : Ra w v' va n xs W' := by
  refine ⟨⟨h.own.1, ?_⟩, fun k hk => ?_⟩
  · rcases h.own.2 with h0 | ⟨g, cap, cur, rfl, h2, h3, h4⟩
    · exact .inl h0
    · obtain ⟨e1, e2, e3⟩ := h.apart g rfl
      exact .inr ⟨g, cap, cur, rfl, h2, (hc.fr.blk g e2 (by omega) (by omega) e1).trans h3, h4⟩
  · obtain ⟨e1, e2, e3⟩ := h.apart k hk
    refine ⟨fun e => ?_, Nat.lt_of_lt_of_le e2 hc.fr.low.size, e3⟩
    rcases hc.new with e4 | e4
    · exact e1 (e4 ▸ e)
    · have := e4 k e; omega
theorem Ra.new {w : World} {i : Img} {u : Value} {r : Plcs} {wait : List Nat} {v va : Value} {n : Nat} {xs : List Value} {W W' : World} (h : Rc w i u r wait v W) (hA : W'.ownsRow (W.heap.size + 1) 22 1 va n xs) : Ra w v va n xs W' := by
  refine ⟨⟨hA.1, ?_⟩, fun k hk => ?_⟩
  · rcases hA.2 with h0 | ⟨g, cap, cur, e1, h2, h3⟩
    · exact .inl h0
    · exact .inr ⟨g, cap, cur, e1, Nat.zero_le _, h3⟩
  · obtain ⟨e1, e2⟩ := hA.lt k hk
    have := h.big
    exact ⟨fun e => by have := (h.row.lt k e).2; omega, e2, by omega⟩
theorem own_cap {W : World} {B : Nat} {t : TypeId} {k : Nat} {p : Option Addr} {n c : Nat} {xs : List Value} (h : W.ownsRow B t k (.slice p n c) n xs) (hn : 0 < n) : n ≤ c := by
  rcases h.2 with ⟨_, e⟩ | ⟨g', cap, cur, e, _, _, h1, _⟩
  · omega
  · injection e with _ _ e3; subst e3; exact h1
theorem getlt {l : List Nat} {k x : Nat} (h : l[k]? = some x) (hl : ∀ a ∈ l, a < 4294967296) : x < 4294967296 := hl x (List.mem_of_getElem? h)
set_option maxHeartbeats 8000000 in
set_option maxRecDepth 100000 in
theorem reached_any (i : Img) (v ve : Value) (es : List Nat) (hes : ∀ a ∈ es, a < 4294967296) (hel : es.length ≤ 1000) (hi : i.ok) (w : World) (hS : SlW w v i.words) (hE : SlW w ve es) :
    Calls Tryz.prog 42 #[imgV i v, ve] w fun e W' => ∃ bm r L, e = .returned (.map (some bm)) ∧ Reached (txI i) (seedsI i es) L r ∧ W'.ownsMap Tryz.prog 22 plcElem bm r.length (D r) ∧ w.heap.size ≤ bm ∧ Below w.heap.size w W' := by
  have hmm := @run_makeMap Tryz.prog
  obtain ⟨p0, q0, rfl, _⟩ := hS.len
  obtain ⟨pe, qe, rfl, _⟩ := hE.len
  have HS := hideE hS
  have HE := hideE hE
  have HF := hideE (txI_fair hi)
  have HI := hideE hi
  have HES := hideE hes
  have hst := Rc.start w i (.slice p0 i.words.length q0)
  have HST := hideE hst
  have hentry := i.entry.isLt
  clear hS hE hi hes hst
  simp only [imgV]
  go_enter Tryz.func42, Tryz.ntmps42
  go_upto_region 4 with fail
  refine gen_world (Rc w i (.slice p0 i.words.length q0) [] [] (.slice none 0 0)) HST.out ?_
  intro wa h1
  obtain ⟨c1, c2, c3, c4⟩ := h1.cells
  go_upto_region 5 with (go_at_call 63; refine (reach_any (sepR w) h1.big rise_nil (by simp) i.entry.toNat hentry true h1.cl).mono ?_; rintro e wb ⟨rfl, v1, hc1⟩)
  have hw1 := (work_start (txI i) (seedsI i es)).reach hentry true (reach_seed List.mem_cons_self)
  have he1 : EntE i es 0 [(i.entry.toNat, true)] := fun p => by obtain ⟨a, b⟩ := p; simp [and_comm]
  have hr1 := h1.of_cl hc1
  have HW1 := hideE hw1
  have HE1 := hideE he1
  clear hc1 c1 c2 c3 c4 hw1 he1
  refine gen_world (Rc w i (.slice p0 i.words.length q0) (rchR [] i.entry.toNat true) (rchW [] [] i.entry.toNat) v1) hr1 ?_
  clear hr1 h1
  intro wc h2
  obtain ⟨ne, hne⟩ : ∃ ne, es.length = ne := ⟨_, rfl⟩
  have HNE := hideE hne
  rw [hne] at hel HE ⊢
  clear hne
  go_upto_region 6 with fail
  go_loopg [24] ne (fun q j W => ∃ (k : Nat) (r : Plcs) (wait : List Nat) (vw : Value) (E : List (Nat × Bool)), k + q = ne ∧ j = .int .i64 (k : Int) ∧ Rc w i (.slice p0 i.words.length q0) r wait vw W ∧ Work (txI i) (seedsI i es) r wait [] E ∧ EntE i es k E)
  case atStart => exact ⟨0, _, _, _, _, by omega, rfl, h2, HW1.out, HE1.out⟩
  case round =>
    clear h2
    obtain ⟨k, r, wait, vw, E, hkq, rfl, h3, hW, hEk⟩ := hrel
    have HW := hideE hW
    have HEk := hideE hEk
    clear hEk
    cases gk with
    | succ q =>
      have hk : ((k : Int) < (ne : Int)) := by omega
      have hk0 : (0 : Int) ≤ (k : Int) := by omega
      have hwk : IntKind.i64.wrap ((k : Int) + 1) = (k : Int) + 1 := wrE (by omega) (by omega)
      obtain ⟨x, hx⟩ : ∃ x, es[k]? = some x := ⟨es[k]'(by rw [HNE.out]; omega), List.getElem?_eq_getElem (by rw [HNE.out]; omega)⟩
      have hxl := getlt hx HES.out
      have hE3 := HE.out.below h3.low
      obtain ⟨g, o, rfl, a3⟩ := hE3.at hx
      have Hx := hideE hx
      have hwl : wait.length ≤ 4000000 := by
        have := hW.len HF.out
        have := HI.out.2.2.1
        have hn : (txI i).n = i.words.length := rfl
        have hsl : (seedsI i es).length = ne + 1 := by rw [← HNE.out]; rfl
        omega
      have hR := hW.rise
      have HNW := hideE (hW.reach hxl true (reach_seed (List.mem_cons_of_mem _ (List.mem_of_getElem? hx))))
      clear hx hE3 hW
      have H3 := hideE h3
      have hB3 := h3.big
      have hc3 := h3.cl
      clear h3
      go_wp2_with (go_at_call 63; refine (reach_any (sepR w) hB3 hR hwl x hxl true hc3).mono ?_; rintro e wd ⟨rfl, v2, hc4⟩)
      go_roundg q
      case measure => omega
      case rel => exact ⟨k + 1, _, _, _, _, by omega, by simp, H3.out.of_cl hc4, HNW.out, entE_step HEk.out Hx.out⟩
    | zero =>
      obtain rfl : k = ne := by omega
      have hk : ¬ ((k : Int) < (k : Int)) := by omega
      have HEd := hideE (entE_end (txI i) (by rw [HNE.out]; exact HEk.out))
      clear HEk
      obtain ⟨N, hN⟩ : ∃ N, k + 1 + 2 * i.words.length = N := ⟨_, rfl⟩
      have hNl : N ≤ 2001001 := by have := HI.out.2.2.1; omega
      have HN := hideE hN
      clear hN
      refine gen_world (Rc w i (.slice p0 i.words.length q0) r wait vw) h3 ?_
      clear h3
      intro we h4
      go_upto_region 10 with fail
      go_loopg [10] N (fun q _ W => ∃ (r : Plcs) (wait : List Nat) (vw : Value) (done : List Nat) (E : List (Nat × Bool)), N ≤ done.length + q ∧ Rc w i (.slice p0 i.words.length q0) r wait vw W ∧ Work (txI i) (seedsI i es) r wait done E ∧ Edges (txI i) (seedsI i es) done E)
      case atStart => exact ⟨r, wait, vw, [], E, by simp, h4, HW.out, HEd.out⟩
      case round =>
        clear h4 HW HEd
        obtain ⟨r, wait, vw, done, E, hq, h5, hW, hEd⟩ := hrel
        have HW := hideE hW
        have HEd := hideE hEd
        have hbd := hW.len HF.out
        have hsl : (seedsI i es).length = k + 1 := by rw [← HNE.out]; rfl
        have hn : (txI i).n = i.words.length := rfl
        rw [hsl, hn, HN.out] at hbd
        clear hW hEd hsl hn
        obtain ⟨pw, cw, rfl⟩ := h5.val
        obtain hwe | ⟨wait', a, hwa⟩ : wait = [] ∨ ∃ l b, wait = l ++ [b] := by
          rcases List.eq_nil_or_concat wait with e | ⟨l, b, e⟩
          · exact .inl e
          · exact .inr ⟨l, b, by rw [e, List.concat_eq_append]⟩
        · subst hwe
          obtain ⟨c1, c2, c3, c4⟩ := h5.cells
          have hown := h5.own
          have hlow := h5.low
          have hfin := hideE (HW.out.end_ HEd.out)
          simp only [List.length_nil] at c2
          clear h5
          go_wp2_with fail
          go_ret
          exact ⟨_, r, done, rfl, hfin.out, hown, by omega, hlow⟩
        · subst hwa
          obtain ⟨m, hm⟩ : ∃ m, wait'.length = m := ⟨_, rfl⟩
          have hm1 : (wait' ++ [a]).length = m + 1 := by rw [List.length_append, hm]; rfl
          rw [hm1] at h5 hbd
          obtain ⟨q, rfl⟩ : ∃ q, gk = q + 1 := ⟨gk - 1, by omega⟩
          have hrow := h5.row
          rw [hm1] at hrow
          obtain ⟨g0, rfl⟩ := own_some hrow (by omega)
          have hcell : wr.cell? ⟨g0, m, none⟩ = some (.int .u32 (a : Int)) := by
            rw [hrow.cellAt m (by omega), List.map_append, List.getElem?_append_right (by simp [hm])]
            simp [hm, wordV]
          have hcap := own_cap hrow (by omega)
          have hcw : m ≤ cw := by omega
          have hcwz : (m : Int) ≤ (cw : Int) := by omega
          have hal : a < 4294967296 := HW.out.lt (.inl (by simp))
          obtain ⟨c1, c2, c3, c4⟩ := h5.cells
          have hmi : ((m + 1 : Nat) : Int) = (m : Int) + 1 := by omega
          have hpos : (m : Int) + 1 > 0 := by omega
          have hm0 : (0 : Int) ≤ (m : Int) := by omega
          have hmlt : (m : Int) < (m : Int) + 1 := by omega
          have hsub : IntKind.i64.wrap ((m : Int) + 1 - 1) = (m : Int) := by rw [show (m : Int) + 1 - 1 = (m : Int) by omega]; exact wrE (by omega) (by omega)
          have HPOP := hideE (h5.pop hm)
          have hR := HW.out.rise
          have hwp := HW.out.pop
          have hra : Bl.Reach (txI i) (seedsI i es) a := by
            obtain ⟨pp, hpp, e⟩ := (hwp.edge a).1 ((hwp.keys a).2 (.inr List.mem_cons_self))
            rw [← e]; exact hwp.only pp hpp
          have HRA := hideE hra
          have HWP := hideE hwp
          clear hwp hra
          clear hrow h5 HW
          go_upto_region 13 with fail
          refine gen_world (Rc w i (.slice p0 i.words.length q0) r wait' (.slice (some ⟨g0, 0, none⟩) m cw)) HPOP.out ?_
          clear HPOP hcell c1 c2 c3 c4
          intro wf h6
          obtain ⟨c1, c2, c3, c4⟩ := h6.cells
          have hown := h6.own
          obtain ⟨pl, hpl⟩ : ∃ pl, at_ r a = pl := ⟨_, rfl⟩
          have HPL := hideE hpl
          have hlk : ∀ (ops : Array Oper) (rest : List Oper) (o : Oper) (act : Act) (Q : Exit → Act → World → Prop) (hg : o.guard = none) (m x : Operand) (hop : o.op = Op.lookup 85 m x false) (hm : act.eval m = .map (some (w.heap.size + 1))) (hx : act.eval x = .int .u32 (a : Int))
            (hK : wpList Tryz.prog ops Q rest (act.put o.dst (.agg (plcC pl))) wf), wpList Tryz.prog ops Q (o :: rest) act wf := fun _ _ _ _ _ hg m x hop hm hx hK => wpList_lookup_plc1 wf hg m x hop (w.heap.size + 1) r r.length a hal hm hown hx (by rw [hpl]; exact hK)
          have HL := hideE hlk
          have HNEW := hideE (fun cs => Rb.new h6 cs pl)
          clear hlk hpl hown h6
          go_upto_region 14 with (first
            | (at_lookup; refine HL.out _ _ _ _ _ rfl _ _ rfl rfl rfl ?_)
            | (refine wpList_store_row rfl 92 _ _ rfl wf.heap.size _ rfl rfl _ _ (heap_alloc_new wf _) (by kernel_rfl) rfl (by kernel_rfl) ?_))
          refine gen_world (Rb w i (.slice p0 i.words.length q0) r wait' (.slice (some ⟨g0, 0, none⟩) m cw) wf.heap.size pl) (HNEW.out _) ?_
          clear HNEW HL c1 c2 c3 c4
          generalize wf.heap.size = gp
          intro wg h7
          have hib := h7.rc.ib
          obtain ⟨X, hX⟩ : ∃ X, insA i a = X := ⟨_, rfl⟩
          obtain ⟨ER, hER⟩ : ∃ ER, errA i a = ER := ⟨_, rfl⟩
          have HST2 := hideE (stands_at i _ a hal HI.out X hX ER hER wg (HS.out.below h7.rc.low))
          have HX := hideE hX
          have HER := hideE hER
          have H7 := hideE h7
          clear h7 hX hER
          go_upto_region 15 with (first
            | (refine wpList_load_row rfl 26 _ rfl w.heap.size rfl _ _ _ _ hib Tryz.underlying26 rfl (by kernel_rfl) ?_)
            | (go_at_call 48; refine HST2.out.mono ?_; rintro e wh ⟨rfl, hbh⟩)
            | (refine wpList_store_row rfl 38 _ _ rfl wh.heap.size _ rfl rfl _ _ (heap_alloc_new wh _) (by kernel_rfl) rfl (by kernel_rfl) ?_))
          refine gen_world (Rx w i (.slice p0 i.words.length q0) r wait' (.slice (some ⟨g0, 0, none⟩) m cw) gp pl wh.heap.size X) (Rx.new (H7.out.ext hbh) _ X) ?_
          clear HST2 hib H7 hbh
          generalize wh.heap.size = gx
          intro wj h8
          obtain ⟨EN, hEN⟩ : ∃ EN, endsI X = EN := ⟨_, rfl⟩
          have HENDS := hideE (hEN ▸ ends_at X wj)
          have HEN := hideE hEN
          have hxb := h8.xb
          clear hEN
          go_upto_region 16 with (first
            | (refine wpList_load_row rfl 38 _ rfl gx rfl _ _ _ _ hxb Tryz.underlying38 rfl (by kernel_rfl) ?_)
            | (go_at_call 64; refine HENDS.out.mono ?_; rintro e wk ⟨rfl, hbk⟩; have h9 := h8.ext hbk; obtain ⟨d0, d1, d2, d3⟩ := h9.rb.cells))
          refine gen_world (Rx w i (.slice p0 i.words.length q0) r wait' (.slice (some ⟨g0, 0, none⟩) m cw) gp ⟨(ER : Int), EN, pl.leads⟩ gx X) (h9.set _ _) ?_
          clear h9 hxb h8 HENDS hbk d0 d1 d2 d3
          intro wl h10
          obtain ⟨c1, c2, c3, c4⟩ := h10.rb.rc.cells
          have hpb := h10.rb.pb
          have hoo := h10.rb.rc.own
          have H10 := hideE h10
          clear h10
          go_upto_region 17 with (first
            | (refine wpList_load_row rfl 92 _ rfl gp rfl _ _ _ _ hpb Tryz.underlying92 rfl (by kernel_rfl) ?_)
            | (at_mapUpdate; refine wpList_update_plc _ rfl _ _ _ rfl (w.heap.size + 1) r hR a hal ⟨(ER : Int), EN, pl.leads⟩ rfl hoo rfl rfl ?_; intro wm hown5 hg5))
          have hpe : ins a ⟨(ER : Int), EN, pl.leads⟩ r = popR (txI i) r a := by
            unfold popR
            rw [HPL.out, ← HER.out, ← HEN.out, ← HX.out]; rfl
          have h11 := H10.out.put hown5 hg5
          rw [hpe] at h11
          refine gen_world (Rx w i (.slice p0 i.words.length q0) (popR (txI i) r a) wait' (.slice (some ⟨g0, 0, none⟩) m cw) gp ⟨(ER : Int), EN, pl.leads⟩ gx X) h11 ?_
          clear h11 hown5 hg5 H10 hoo hpb c1 c2 c3 c4 hpe HPL hR
          intro wn h12
          by_cases h0 : ER = 0
          · subst h0
            have hxb := h12.xb
            have HAF := hideE (after_at X a wn)
            have H12 := hideE h12
            clear h12
            go_upto_region 19 with (first
              | (refine wpList_load_row rfl 38 _ rfl gx rfl _ _ _ _ hxb Tryz.underlying38 rfl (by kernel_rfl) ?_)
              | (go_at_call 49; refine HAF.out.mono ?_; rintro e wo ⟨va, rfl, hA, hbA⟩; obtain ⟨pa, ca, rfl⟩ := own_slice' hA))
            have ha1 := Ra.new H12.out.rb.rc hA
            have hb1 := H12.out.rb.ext hbA
            obtain ⟨A, hAA⟩ : ∃ A, aftI X a = A := ⟨_, rfl⟩
            have HAA : Hid ((txI i).suc a = A) := show _ = _ by rw [← hAA, ← HX.out]; rfl
            rw [hAA] at ha1 ⊢
            have hA2 : A.length ≤ 2 := by rw [← hAA]; exact aft_two _ _ _ _ _ _
            clear hAA hA hbA H12 HAF hxb
            obtain ⟨nA, hnA⟩ : ∃ nA, A.length = nA := ⟨_, rfl⟩
            rw [hnA] at ha1 hA2 ⊢
            have HNA := hideE hnA
            clear hnA
            go_loopg [69] nA (fun q2 j W => ∃ (k2 : Nat) (r2 : Plcs) (wait2 : List Nat) (v2 : Value) (E2 : List (Nat × Bool)), k2 + q2 = nA ∧ j = .int .i64 (k2 : Int) ∧ Rb w i (.slice p0 i.words.length q0) r2 wait2 v2 gp ⟨((0 : Nat) : Int), EN, pl.leads⟩ W ∧ Ra w v2 (.slice pa nA ca) nA (A.map wordV) W ∧ Work (txI i) (seedsI i es) r2 wait2 (a :: done) E2 ∧ SucE E A EN k2 E2)
            case atStart => exact ⟨0, _, _, _, E, by omega, rfl, hb1, ha1, HWP.out, fun p => by simp⟩
            case round =>
              clear hb1 ha1 HWP
              obtain ⟨k2, r2, wait2, v2, E2, hk2, rfl, h13, h14, hW2, hE2⟩ := hrel
              have HW2 := hideE hW2
              have HE2 := hideE hE2
              clear hE2
              obtain ⟨p2, q2', rfl⟩ := h13.rc.val
              cases gk with
              | succ qq =>
                have hk : ((k2 : Int) < (nA : Int)) := by omega
                have hk0 : (0 : Int) ≤ (k2 : Int) := by omega
                have hwk : IntKind.i64.wrap ((k2 : Int) + 1) = (k2 : Int) + 1 := wrE (by omega) (by omega)
                obtain ⟨x, hx⟩ : ∃ x, A[k2]? = some x := ⟨A[k2]'(by rw [HNA.out]; omega), List.getElem?_eq_getElem (by rw [HNA.out]; omega)⟩
                have hxm : x ∈ (txI i).suc a := by rw [HAA.out]; exact List.mem_of_getElem? hx
                have hxl := suc_lt hxm
                obtain ⟨ga, rfl⟩ := own_some h14.own (by omega)
                have a3 : wr.cell? ⟨ga, k2, none⟩ = some (.int .u32 (x : Int)) := by
                  rw [h14.own.cellAt k2 (by omega), List.getElem?_map, hx]; rfl
                obtain ⟨_, d1, _, _⟩ := h13.cells
                have hwl : wait2.length ≤ 4000000 := by
                  have h1 := HW2.out.len HF.out
                  have hsl : (seedsI i es).length = k + 1 := by rw [← HNE.out]; rfl
                  have hn : (txI i).n = i.words.length := rfl
                  rw [hsl, hn, HN.out] at h1
                  omega
                have hR2 := HW2.out.rise
                have HNW := hideE (HW2.out.reach hxl EN (reach_step HRA.out (by show errA i a = 0; exact HER.out) hxm))
                have HSE := hideE (sucE_step HE2.out hx)
                have hB3 := h13.rc.big
                have hc3 := h13.rc.cl
                have H13 := hideE h13
                have H14 := hideE h14
                clear h13 h14 hx hxm HW2 HE2
                go_wp2_with (go_at_call 63; refine (reach_any (sepR w) hB3 hR2 hwl x hxl EN hc3).mono ?_; rintro e wq ⟨rfl, v5, hc5⟩)
                go_roundg qq
                case measure => omega
                case rel => exact ⟨k2 + 1, _, _, _, _, by omega, by simp, H13.out.reach hc5, H14.out.reach hc5, HNW.out, HSE.out⟩
              | zero =>
                obtain rfl : k2 = nA := by omega
                have hk : ¬ ((k2 : Int) < (k2 : Int)) := by omega
                have HED := hideE (edges_step (T := txI i) (a := a) (by show errA i a = 0; exact HER.out) HEd.out (by
                  rw [HAA.out, HNA.out, show (txI i).ends a = EN by rw [← HEN.out, ← HX.out]; rfl]
                  exact HE2.out))
                have H13 := hideE h13.rc
                clear h13 h14 HE2
                go_wp2_with fail
                go_roundg q
                case measure => omega
                case rel => exact ⟨r2, wait2, _, a :: done, E2, by simp; omega, H13.out, HW2.out, HED.out⟩
          · have hne : ((ER : Int) != 0) = true := bne_iff_ne.2 (by omega)
            have HED := hideE (edges_err (T := txI i) (a := a) (by show errA i a ≠ 0; rw [HER.out]; exact h0) HEd.out)
            have H12 := hideE h12.rb.rc
            clear h12 h0
            go_wp2_with fail
            go_roundg q
            case measure => omega
            case rel => exact ⟨_, wait', _, a :: done, E, by simp; omega, H12.out, HWP.out, HED.out⟩
end Go.Proofs.YtcffpmicencfpabGreat
