/-
  MemCells answers true of any script; without any condition.
  The walk of MemCells: it answers true of any script.
-/
import Derived.Laws.Strings3
import Derived.Laws.IdiomStrings
import Derived.OwnWalk
import Derived.WalkSpells
import Derived.Deep.RegionHeld3
import Derived.Test.YtmhgighiekncfaaRows
import Derived.WalkKit
import Derived.ProofKit
import Derived.OpenShut
import Derived.Test.YtmhgighiekncfaaZi
namespace Go.Proofs.Ytmhgighiekncfaa
open Go.RowKit Go.Maps Mm
set_option linter.unusedSimpArgs false

/-- What stays while a script is put into the memory at p and m: the call at hand, the other memory, all that is old. -/
structure Two (w : World) (p m q r : Nat) (b o : Nat) (c : Rec) (W : World) : Prop where
  op : OpAt W b o c
  lt : b < w.heap.size
  one : ∃ L, MemAt W p m L
  two : MemAt W q r []
  low : Below w.heap.size w W
  pm : w.heap.size ≤ m
  far : q ≠ m ∧ r ≠ m
theorem below_cell {w W W' : World} (h : Below w.heap.size w W) (h' : Below w.heap.size w W') {a : Addr} (hl : a.block < w.heap.size) : W'.cell? a = W.cell? a := by
  unfold World.cell?
  rw [h.block _ hl, h'.block _ hl]
theorem OpAt.old {w W W' : World} {b o : Nat} {c : Rec} (x : OpAt W b o c) (hl : b < w.heap.size) (h : Below w.heap.size w W) (h' : Below w.heap.size w W') : OpAt W' b o c :=
  ⟨(below_cell h h' hl).trans x.c0, (below_cell h h' hl).trans x.c1, (below_cell h h' hl).trans x.c2, (below_cell h h' hl).trans x.c3, (below_cell h h' hl).trans x.c4, x.wk, x.wn, x.wa, x.wv, x.ws⟩
theorem Two.grown {w W W' : World} {p m q r b o : Nat} {c : Rec} (h : Two w p m q r b o c W) {L : Cs} (hm : MemAt W' p m L) (hg : W.grownBy W' (some m)) : Two w p m q r b o c W' :=
  have hl : Below w.heap.size w W' := h.low.trans (grown_below hg h.pm h.low.size)
  ⟨h.op.old h.lt h.low hl, h.lt, ⟨L, hm⟩, h.two.apart hg h.far.1 h.far.2, hl, h.pm, h.far⟩
theorem Two.drew {w W : World} {p m q r b o : Nat} {c : Rec} (h : Two w p m q r b o c W) : Two w p m q r b o c W.drew := by
  have hd := drewN_below W 1 W.heap.size
  have hl : Below w.heap.size w W.drew := h.low.trans (drewN_below W 1 _)
  obtain ⟨L, hL⟩ := h.one
  exact ⟨h.op.old h.lt h.low hl, h.lt, ⟨L, hL.below hd⟩, h.two.below hd, hl, h.pm, h.far⟩
theorem u32_of {a : Int} (h : (Lit.int .u32 a).wf = true) : 0 ≤ a ∧ a < 4294967296 := ⟨(bounds_u32 h).1, by have := (bounds_u32 h).2; omega⟩
theorem Two.put {w W : World} {p m q r b o : Nat} {c : Rec} (h : Two w p m q r b o c W) {t : ByteArray} (ht : t.size ≤ 65536) :
    Calls Try.prog 15 #[.pointer (some ⟨p, 0, none⟩), .int .u32 c.a, .string t] W fun e w' => e = .returned (.tuple #[]) ∧ Two w p m q r b o c w' := by
  obtain ⟨L, hL⟩ := h.one
  exact (mput_any W hL (u32_of h.op.wa) ht).mono fun _ _ k => ⟨k.1, h.grown k.2.1 k.2.2⟩
theorem Two.store {w W : World} {p m q r b o : Nat} {c : Rec} (h : Two w p m q r b o c W) {a : Int} (ha : 0 ≤ a ∧ a < 4294967296) :
    Calls Try.prog 13 #[.pointer (some ⟨p, 0, none⟩), .int .u32 a, .int .i64 4, .int .u32 c.v] W fun e w' => e = .returned (.int .i64 0) ∧ Two w p m q r b o c w' := by
  obtain ⟨L, hL⟩ := h.one
  exact (store_any W hL ha (Or.inr (Or.inr rfl)) (u32_of h.op.wv)).mono fun _ _ k => ⟨k.1, h.grown k.2.1 k.2.2⟩
/-- .. with the cells that are read laid open. -/
def TwoC (w : World) (p m q r : Nat) (b o : Nat) (c : Rec) (W : World) : Prop :=
  W.cell? ⟨b, o + 2, none⟩ = some (.int .u32 c.a) ∧ W.cell? ⟨b, o + 3, none⟩ = some (.int .u32 c.v) ∧ W.cell? ⟨b, o + 4, none⟩ = some (.string c.s) ∧ Two w p m q r b o c W
theorem Two.c {w W : World} {p m q r b o : Nat} {c : Rec} (h : Two w p m q r b o c W) : TwoC w p m q r b o c W := ⟨h.op.c2, h.op.c3, h.op.c4, h⟩

/-- The condition of a region that is walked may be made stronger on the way. -/
theorem wpAnyH_more3 {P : Program} {md : Region.Mode} {ops : Array Oper} {Q : Exit → Act → World → Prop} {S S' : World → Prop} (h : ∀ w, S' w → S w) : ∀ (fuel : Nat) (listed : Array Bool) (a : Act) (w : World), wpAnyH P md ops Q S' fuel listed a w → wpAnyH P md ops Q S fuel listed a w
  | 0, _, _, _, hh => hh
  | fuel + 1, _, _, _, hh => ⟨hh.1, fun i hi => wpOp_mono (fun a' w' h' => ⟨h _ h'.1, wpAnyH_more3 h fuel _ a' w' h'.2⟩) (hh.2 i hi)⟩
theorem wrap_range (x : Int) : 0 ≤ IntKind.u32.wrap x ∧ IntKind.u32.wrap x < 4294967296 := by
  have : IntKind.u32.wrap x = x % 4294967296 := rfl
  omega
theorem look_new (l : Cs) (p : Int × Int) (h : ∀ q ∈ l, q.1 ≠ p.1) (x : Int) : Mm.look (l ++ [p]) x = if x = p.1 then p.2 else Mm.look l x := by
  induction l with
  | nil => simp only [List.nil_append, Mm.look]; by_cases e : x = p.1
           · rw [if_pos e.symm, if_pos e]
           · rw [if_neg (fun h => e h.symm), if_neg e]
  | cons q r ih =>
    have ih := ih fun z hz => h z (List.mem_cons_of_mem _ hz)
    have hq := h q List.mem_cons_self
    show (if q.1 = x then q.2 else Mm.look (r ++ [p]) x) = if x = p.1 then p.2 else if q.1 = x then q.2 else Mm.look r x
    rw [ih]
    by_cases e : q.1 = x
    · rw [if_pos e, if_neg (fun h => hq (e.trans h)), if_pos e]
    · rw [if_neg e, if_neg e]
theorem rise_take {L : Cs} (h : Rise L) (k : Nat) : Rise (L.take k) := ⟨h.up.take, fun p hp => h.ok p (List.mem_of_mem_take hp)⟩
theorem take_apart {L : Cs} (h : Rise L) (k : Nat) (hk : k < L.length) : ∀ q ∈ L.take k, q.1 < (L[k]).1 := by
  have e : L = L.take k ++ L[k] :: L.drop (k + 1) := by rw [List.getElem_cons_drop, List.take_append_drop]
  have u := h.up
  rw [e] at u
  intro q hq
  exact (List.pairwise_append.1 u).2.2 q hq _ List.mem_cons_self
theorem set_take {L : Cs} (h : Rise L) (k j : Nat) (hk : k < L.length) (hj : j = k ∨ j = k + 1) : puts (L.take j) (L[k]).1 [UInt8.ofNat (L[k]).2.toNat] 1 = L.take (k + 1) := by
  have ok := h.ok L[k] (List.getElem_mem hk)
  have e1 : ((L[k]).1 + ((0 : Nat) : Int)) % 4294967296 = (L[k]).1 := by omega
  have e2 : (((([UInt8.ofNat (L[k]).2.toNat] : List UInt8).getD 0 0).toNat : Nat) : Int) = (L[k]).2 := by
    show (((UInt8.ofNat (L[k]).2.toNat).toNat : Nat) : Int) = _
    rw [UInt8.toNat_ofNat']; omega
  show Mm.set (L.take j) (((L[k]).1 + ((0 : Nat) : Int)) % 4294967296) ((([UInt8.ofNat (L[k]).2.toNat] : List UInt8).getD 0 0).toNat : Int) = _
  rw [e1, e2]
  refine ext (rise_set (rise_take h j) (by omega) (by omega)) (rise_take h _) fun x => ?_
  rw [look_set]
  have hs : L.take (k + 1) = L.take k ++ [L[k]] := (List.take_append_getElem hk).symm
  have hn := look_new (L.take k) L[k] (fun q hq => by have := take_apart h k hk q hq; omega) x
  rw [← hs] at hn
  rcases hj with rfl | rfl
  · exact hn.symm
  · rw [hn]; split <;> rfl

/-- What stays while the cells of a memory are put into the other one. -/
structure Three (w : World) (B q r g n cap : Nat) (L : Cs) (k : Nat) (W : World) : Prop where
  row : W.ownsRow B 42 2 (.slice (some ⟨g, 0, none⟩) n cap) n (cellsOf L)
  mem : MemAt W q r (L.take k) ∨ MemAt W q r (L.take (k + 1))
  low : Below w.heap.size w W
  far : g ≠ r
  old : w.heap.size ≤ r
theorem Three.put {w W : World} {B q r g n cap k : Nat} {L : Cs} (h : Three w B q r g n cap L k W) (hL : Rise L) (hk : k < L.length) {a c : Int} (ha : a = (L[k]).1) (hc : c = (L[k]).2) :
    Calls Try.prog 15 #[.pointer (some ⟨q, 0, none⟩), .int .u32 a, .string ⟨#[UInt8.ofNat c.toNat]⟩] W fun e w' => e = .returned (.tuple #[]) ∧ MemAt w' q r (L.take (k + 1)) ∧ Three w B q r g n cap L k w' ∧ W.grownBy w' (some r) := by
  subst ha hc
  have ok := hL.ok L[k] (List.getElem_mem hk)
  obtain ⟨j, hj, hm⟩ : ∃ j, (j = k ∨ j = k + 1) ∧ MemAt W q r (L.take j) := by
    rcases h.mem with m | m
    · exact ⟨k, .inl rfl, m⟩
    · exact ⟨k + 1, .inr rfl, m⟩
  refine (mput_any W hm (by omega) (s := ⟨#[UInt8.ofNat (L[k]).2.toNat]⟩) (by show (1 : Nat) ≤ 65536; omega)).mono fun _ w' ⟨e, m, hg⟩ => ?_
  have m' : MemAt w' q r (L.take (k + 1)) := by rw [← set_take hL k j hk hj]; exact m
  exact ⟨e, m', ⟨h.row.kept hg (.inr (by simpa [Value.ownBlock] using h.far)), .inr m', h.low.trans (grown_below hg h.old h.low.size), h.far, h.old⟩, hg⟩
theorem grown_cell {w w' : World} {r : Nat} (h : w.grownBy w' (some r)) {a : Addr} {v : Value} (hne : a.block ≠ r) (hc : w.cell? a = some v) : w'.cell? a = some v := by
  have hl := cell_lt hc
  unfold World.cell? at hc ⊢
  obtain ⟨_, _, _, _, hb⟩ := h
  rw [hb _ hl (by simpa using hne)]; exact hc
theorem one_byte {w : World} {b : Nat} {E : Int} (hE : 0 ≤ E ∧ E ≤ 255) (hc : w.cell? ⟨b, 0, none⟩ = some (.int .u8 E)) :
    (convert 47 9 (.slice (some ⟨b, 0, none⟩) 1 1)).run Try.prog w = .ok (.string ⟨#[UInt8.ofNat E.toNat]⟩) w := by
  refine run_convert_bytes_back (P := Try.prog) w 47 9 5 ⟨b, 0, none⟩ 1 [UInt8.ofNat E.toNat] Try.underlying47 Try.underlying5 Try.underlying9 fun j hj => ?_
  obtain rfl : j = 0 := by simpa using hj
  have e : (((UInt8.ofNat E.toNat).toNat : Nat) : Int) = E := by rw [UInt8.toNat_ofNat']; omega
  show w.cell? ⟨b, 0, none⟩ = some (.int .u8 ((UInt8.ofNat E.toNat).toNat : Int))
  rw [e]; exact hc
theorem Three.drew {w W : World} {B q r g n cap k : Nat} {L : Cs} (h : Three w B q r g n cap L k W) : Three w B q r g n cap L k W.drew :=
  have hd := drewN_below W 1 W.heap.size
  ⟨h.row.drew, h.mem.imp (·.below hd) (·.below hd), h.low.trans (drewN_below W 1 _), h.far, h.old⟩
theorem Three.alloc {w W : World} {B q r g n cap k : Nat} {L : Cs} (h : Three w B q r g n cap L k W) (o : Obj) : Three w B q r g n cap L k (W.alloc o) :=
  have hd : Below W.heap.size W (W.alloc o) := (Below.refl _ _).alloc (Nat.le_refl _) o
  ⟨h.row.alloc o, h.mem.imp (·.below hd) (·.below hd), h.low.alloc h.low.size o, h.far, h.old⟩

theorem Three.full {w W : World} {B q r g cap k : Nat} {L : Cs} (h : Three w B q r g L.length cap L k W) (hk : k < L.length) {A E : Int} (hA : A = (L[k]).1) (hE : E = (L[k]).2) :
    W.cell? ⟨g, k * 2, none⟩ = some (.int .u32 A) ∧ W.cell? ⟨g, k * 2 + 1, none⟩ = some (.int .u8 E) ∧ Three w B q r g L.length cap L k W := by
  obtain ⟨x0, y0⟩ := cellsOf_at L k hk
  exact ⟨by rw [hA]; exact (h.row.cellAt (k * 2) (by omega)).trans x0, by rw [hE]; exact (h.row.cellAt (k * 2 + 1) (by omega)).trans y0, h⟩
theorem Three.drewN {w W : World} {B q r g n cap k : Nat} {L : Cs} (h : Three w B q r g n cap L k W) (i : Nat) : Three w B q r g n cap L k (W.drewN i) :=
  have hd := drewN_below W i W.heap.size
  ⟨h.row.kept (row := none) ⟨rfl, rfl, rfl, Nat.le_refl _, fun _ _ _ => rfl⟩ (.inr (by simp [Value.ownBlock])), h.mem.imp (·.below hd) (·.below hd), h.low.trans (drewN_below W i _), h.far, h.old⟩

set_option maxHeartbeats 4000000 in
set_option maxRecDepth 100000 in
theorem memCells_walk (x : Value) (n : Nat) (ops : Nat → Rec) (w : World) (hs : Script w x n ops) :
    Calls Try.prog 7 #[x] w fun e w' => e = .returned (.bool true) ∧ Below w.heap.size w w' := by
  obtain ⟨ad, cap, rfl, hop⟩ := hs
  have HO := hide hop
  clear hop
  go_enter Try.func7, Try.ntmps7
  go_wp2_with fail
  refine (new_op w).mono ?_
  rintro e w1 ⟨p, m, rfl, hm, hp1, hm1, hb1⟩
  go_wp2_with fail
  refine (new_op w1).mono ?_
  rintro e w2 ⟨q, r, rfl, hq, hq1, hr1, hb2⟩
  have l1 := hm.lt
  have l2 := hm.lt'
  have hm2 := hm.below hb2
  have hb2' : Below w.heap.size w w2 := hb1.trans (hb2.mono hb1.size)
  have hqm : q ≠ m ∧ r ≠ m := ⟨by omega, by omega⟩
  have hqw : w.heap.size ≤ q ∧ w.heap.size ≤ r := by have := hb1.size; omega
  clear hm hb1 hb2 hp1 hq1 hr1 l1 l2
  go_wp2_with fail
  go_loopw [5] (fun u W => ∃ k : Nat, u = .int .i64 k ∧ k ≤ n ∧ k ≤ 30 ∧ (∃ L, MemAt W p m L) ∧ MemAt W q r [] ∧ Below w.heap.size w W) (fun u _ => n - (intOf u).toNat)
  case atStart => exact ⟨0, rfl, Nat.zero_le _, Nat.zero_le _, ⟨_, hm2⟩, hq, hb2'⟩
  case round =>
    clear hm2 hq hb2'
    obtain ⟨k, rfl, hk, hk30, hL, hq, hb⟩ := hrel
    by_cases hgo : k < n ∧ k < 30
    · obtain ⟨hlt, hlt30⟩ := hgo
      · obtain ⟨b, o, rfl, hat⟩ := HO.out k hlt
        have T : Two w p m q r b (o + k * 5) (ops k) wr := by
          have hl : b < w.heap.size := cell_lt hat.c0
          exact ⟨hat.old hl (Below.refl _ _) hb, hl, hL, hq, hb, hm1, hqm⟩
        have hws := hat.ws
        unfold maxLen at hws
        obtain ⟨c, hc⟩ : ∃ c, ops k = c := ⟨_, rfl⟩
        rw [hc] at T hws
        clear hc hat HO hL hq hb
        obtain ⟨z, hz, hz0, hz1, hz2⟩ : ∃ z : Int, min (c.s.size : Int) 30 = z ∧ 0 ≤ z ∧ z ≤ c.s.size ∧ z ≤ 30 := ⟨_, rfl, by omega, by omega, by omega⟩
        go_wp2_with fail
        have TD := T.drew.c
        go_region_held3 (fun W => W.cell? ⟨b, o + k * 5 + 2, none⟩ = some (.int .u32 c.a) ∧ W.cell? ⟨b, o + k * 5 + 3, none⟩ = some (.int .u32 c.v) ∧ W.cell? ⟨b, o + k * 5 + 4, none⟩ = some (.string c.s) ∧ Two w p m q r b (o + k * 5) c W) (first | assumption)
          (first
            | (go_at_call 15; refine (Two.put (by assumption : TwoC w p m q r b (o + k * 5) c _).2.2.2 (by rw [ByteArray.size_extract]; omega)).mono ?_; rintro e w9 ⟨rfl, hk9⟩; have hS := hk9.c))
        clear T TD hS
        rename_i hX
        clear hX
        go_wp2_with fail
        have TD := hk9.drew.c
        go_region_held3 (fun W => W.cell? ⟨b, o + k * 5 + 2, none⟩ = some (.int .u32 c.a) ∧ W.cell? ⟨b, o + k * 5 + 3, none⟩ = some (.int .u32 c.v) ∧ W.cell? ⟨b, o + k * 5 + 4, none⟩ = some (.string c.s) ∧ Two w p m q r b (o + k * 5) c W) (first | assumption)
          (first
            | (go_at_call 13; refine (Two.store (by assumption : TwoC w p m q r b (o + k * 5) c _).2.2.2 (wrap_range _)).mono ?_; rintro e w10 ⟨rfl, hk10⟩; have hS := hk10.c))
        go_wp2_with fail
        exact ⟨⟨k + 1, by go_num, by omega, by omega, hk10.one, hk10.two, hk10.low⟩, by simp [intOf]; omega⟩
    · obtain ⟨L, hL⟩ := hL
      clear HO
      have hcase : ¬ k < n ∨ k < n ∧ ¬ k < 30 := by omega
      clear hgo
      rcases hcase with h1 | ⟨h1, h2⟩
      all_goals
        go_wp2_with fail
        refine (cells_any wr hL).mono ?_
        rintro e w3 ⟨x, rfl, hx3, hb3⟩
        have hq3 := hq.below hb3
        have hlr := hq.lt'
        have hb3' : Below w.heap.size w w3 := hb.trans (hb3.mono hb.size)
        have hR := hL.rise
        have hRL := hR.length
        have hB := hb.size
        clear hL hq hb hb3
        obtain ⟨ad', cp, rfl⟩ : ∃ ad' cp, x = .slice ad' L.length cp := by
          rcases hx3.2 with ⟨hx, h0⟩ | ⟨g, cap', cur, hx, _⟩
          · rw [h0]; exact ⟨_, _, hx⟩
          · exact ⟨_, _, hx⟩
        generalize wr.heap.size = B at hx3 hlr hB
        go_wp2_with fail
        go_loopw [7] (fun u W => ∃ k : Nat, u = .int .i64 k ∧ k ≤ L.length ∧ MemAt W q r (L.take k) ∧ W.ownsRow B 42 2 (.slice ad' L.length cp) L.length (cellsOf L) ∧ Below w.heap.size w W) (fun u _ => L.length - (intOf u).toNat)
        case atStart => exact ⟨0, rfl, Nat.zero_le _, hq3, hx3, hb3'⟩
        case round =>
          clear hq3 hx3 hb3'
          obtain ⟨k, rfl, hk, hq, hx, hb⟩ := hrel
          by_cases hlt : k < L.length
          · obtain ⟨g, cp', hv, hg1⟩ : ∃ g cp', Value.slice ad' L.length cp = .slice (some ⟨g, 0, none⟩) L.length cp' ∧ B ≤ g := by
              rcases hx.2 with ⟨_, h0⟩ | ⟨g, cap', cur, hv, hb', _⟩
              · omega
              · exact ⟨g, cap', hv, hb'⟩
            simp only [Value.slice.injEq] at hv
            obtain ⟨rfl, _, rfl⟩ := hv
            have T : Three w B q r g L.length cp L k wr := ⟨hx, .inl hq, hb, by omega, by omega⟩
            obtain ⟨x0, y0⟩ := cellsOf_at L k hlt
            have C0 : wr.cell? ⟨g, k * 2, none⟩ = some (.int .u32 (L[k]).1) := (hx.cellAt (k * 2) (by omega)).trans x0
            have C1 : wr.cell? ⟨g, k * 2 + 1, none⟩ = some (.int .u8 (L[k]).2) := (hx.cellAt (k * 2 + 1) (by omega)).trans y0
            have hok := hR.ok L[k] (List.getElem_mem hlt)
            have HT := hide T
            have HP := hide (take_apart hR k hlt)
            obtain ⟨A, hA⟩ : ∃ A, A = (L[k]).1 := ⟨_, rfl⟩
            obtain ⟨E, hE⟩ : ∃ E, E = (L[k]).2 := ⟨_, rfl⟩
            have HA := hide hA
            have HE := hide hE
            rw [← hA] at C0 hok
            rw [← hE] at C1 hok
            clear hA hE x0 y0
            by_cases hk0 : k = 0
            · subst hk0
              have hE0 : (E == 0) = false := by simp; omega
              rw [Nat.zero_mul] at C0
              rw [Nat.zero_mul, Nat.zero_add] at C1
              clear T hx hq hb HP
              go_wp2_with fail
              go_quiet (fail)
              have TN := HT.out.drewN nq
              have T9 := TN.drew.full hlt HA.out HE.out
              generalize wr.drewN nq = wn at TN T9 ⊢
              have hrn : r < wn.heap.size := by rcases TN.mem with m | m <;> exact m.lt'
              have hEr : 0 ≤ E ∧ E ≤ 255 := by omega
              go_wp2_with fail
              -- R15 0
              refine wp_region_noPanic ?_
              refine wp_region_held_drew (S := (fun W => W.cell? ⟨g, 0, none⟩ = some (.int .u32 A) ∧ W.cell? ⟨g, 1, none⟩ = some (.int .u8 E) ∧ Three w B q r g L.length cp L 0 W)) (by kernel_rfl) T9 (fun h0 => ?_)
              refine wpAnyH_take (i := 0) (v := ?_) rfl (by kernel_rfl) (by kernel_rfl) (by kernel_rfl) (fun _ _ _ h => h) (Or.inl ⟨by rfl, ?_⟩) h0 ?_
              rotate_left 1
              · intro w' hSw
                obtain ⟨s0, s1, _⟩ := hSw
                go_simp <;> with_reducible rfl
              try simp only [Act.put, List.setIfInBounds_toArray, List.set_cons_zero, List.set_cons_succ]
              refine wpAnyH_take (i := 1) (v := ?_) rfl (by kernel_rfl) (by kernel_rfl) (by kernel_rfl) (fun _ _ _ h => h) (Or.inl ⟨by rfl, ?_⟩) h0 ?_
              rotate_left 1
              · intro w' hSw
                obtain ⟨s0, s1, _⟩ := hSw
                go_simp <;> with_reducible rfl
              try simp only [Act.put, List.setIfInBounds_toArray, List.set_cons_zero, List.set_cons_succ]
              refine wpAnyH_take (i := 2) (v := ?_) rfl (by kernel_rfl) (by kernel_rfl) (by kernel_rfl) (fun _ _ _ h => h) (Or.inl ⟨by rfl, ?_⟩) h0 ?_
              rotate_left 1
              · intro w' hSw
                obtain ⟨s0, s1, _⟩ := hSw
                go_simp <;> with_reducible rfl
              try simp only [Act.put, List.setIfInBounds_toArray, List.set_cons_zero, List.set_cons_succ]
              refine wpAnyH_take (i := 3) (v := ?_) rfl (by kernel_rfl) (by kernel_rfl) (by kernel_rfl) (fun _ _ _ h => h) (Or.inl ⟨by rfl, ?_⟩) h0 ?_
              rotate_left 1
              · intro w' hSw
                obtain ⟨s0, s1, _⟩ := hSw
                go_simp <;> with_reducible rfl
              try simp only [Act.put, List.setIfInBounds_toArray, List.set_cons_zero, List.set_cons_succ]
              refine wpAnyH_take (i := 4) (v := ?_) rfl (by kernel_rfl) (by kernel_rfl) (by kernel_rfl) (fun _ _ _ h => h) (Or.inl ⟨by rfl, ?_⟩) h0 ?_
              rotate_left 1
              · intro w' hSw
                obtain ⟨s0, s1, _⟩ := hSw
                go_simp <;> with_reducible rfl
              try simp only [Act.put, List.setIfInBounds_toArray, List.set_cons_zero, List.set_cons_succ]
              refine wpAnyH_take (i := 5) (v := ?_) rfl (by kernel_rfl) (by kernel_rfl) (by kernel_rfl) (fun _ _ _ h => h) (Or.inl ⟨by rfl, ?_⟩) h0 ?_
              rotate_left 1
              · intro w' hSw
                obtain ⟨s0, s1, _⟩ := hSw
                go_simp <;> with_reducible rfl
              try simp only [Act.put, List.setIfInBounds_toArray, List.set_cons_zero, List.set_cons_succ]
              refine wpAnyH_take (i := 6) (v := ?_) rfl (by kernel_rfl) (by kernel_rfl) (by kernel_rfl) (fun _ _ _ h => h) (Or.inl ⟨by rfl, ?_⟩) h0 ?_
              rotate_left 1
              · intro w' hSw
                obtain ⟨s0, s1, _⟩ := hSw
                go_simp <;> with_reducible rfl
              try simp only [Act.put, List.setIfInBounds_toArray, List.set_cons_zero, List.set_cons_succ]
              refine wpAnyH_take (i := 7) (v := ?_) rfl (by kernel_rfl) (by kernel_rfl) (by kernel_rfl) (fun _ _ _ h => h) (Or.inl ⟨by rfl, ?_⟩) h0 ?_
              rotate_left 1
              · intro w' hSw
                obtain ⟨s0, s1, _⟩ := hSw
                go_simp <;> with_reducible rfl
              try simp only [Act.put, List.setIfInBounds_toArray, List.set_cons_zero, List.set_cons_succ]
              refine wpAnyH_take (i := 8) (v := ?_) rfl (by kernel_rfl) (by kernel_rfl) (by kernel_rfl) (fun _ _ _ h => h) (Or.inl ⟨by rfl, ?_⟩) h0 ?_
              rotate_left 1
              · intro w' hSw
                obtain ⟨s0, s1, _⟩ := hSw
                go_simp <;> with_reducible rfl
              try simp only [Act.put, List.setIfInBounds_toArray, List.set_cons_zero, List.set_cons_succ]
              refine wpAnyH_take (i := 9) (v := ?_) rfl (by kernel_rfl) (by kernel_rfl) (by kernel_rfl) (fun _ _ _ h => h) (Or.inl ⟨by rfl, ?_⟩) h0 ?_
              rotate_left 1
              · intro w' hSw
                obtain ⟨s0, s1, _⟩ := hSw
                go_simp <;> with_reducible rfl
              try simp only [Act.put, List.setIfInBounds_toArray, List.set_cons_zero, List.set_cons_succ]
              refine wpAnyH_take (i := 10) (v := ?_) rfl (by kernel_rfl) (by kernel_rfl) (by kernel_rfl) (fun _ _ _ h => h) (Or.inl ⟨by rfl, ?_⟩) h0 ?_
              rotate_left 1
              · intro w' hSw
                obtain ⟨s0, s1, _⟩ := hSw
                go_simp <;> with_reducible rfl
              try simp only [Act.put, List.setIfInBounds_toArray, List.set_cons_zero, List.set_cons_succ]
              refine wpAnyH_ready (rs := [11]) (by kernel_rfl) (by simp) (AllReadyH.cons rfl (fun K hK => ?_) AllReadyH.nil)
              go_simp
              have h1 : (fun W => (W.cell? ⟨g, 0, none⟩ = some (.int .u32 A) ∧ W.cell? ⟨g, 1, none⟩ = some (.int .u8 E) ∧ Three w B q r g L.length cp L 0 W) ∧ W.cell? ⟨wn.heap.size, 0, none⟩ = some (.int .u8 E)) ((wn.alloc (.cells #[.int .u8 E] 5)).drew) := ⟨(TN.alloc _).drew.full hlt HA.out HE.out, by show (wn.alloc _).cell? _ = _; rw [World.cell?_alloc_at _ _ _ _ rfl]; rfl⟩
              refine hK.out _ _ h1.1 (fun _ => ?_)
              clear hK K
              refine wpAnyH_more3 (S' := (fun W => (W.cell? ⟨g, 0, none⟩ = some (.int .u32 A) ∧ W.cell? ⟨g, 1, none⟩ = some (.int .u8 E) ∧ Three w B q r g L.length cp L 0 W) ∧ W.cell? ⟨wn.heap.size, 0, none⟩ = some (.int .u8 E))) (fun _ h => h.1) _ _ _ _ ?_
              try simp only [Act.put, List.setIfInBounds_toArray, List.set_cons_zero, List.set_cons_succ]
              refine wpAnyH_take (i := 12) (v := ?_) rfl (by kernel_rfl) (by kernel_rfl) (by kernel_rfl) (fun _ _ _ h => h) (Or.inl ⟨by rfl, ?_⟩) h1 ?_
              rotate_left 1
              · intro w' hSw
                have hcv := one_byte hEr hSw.2
                clear hSw
                go_simp <;> with_reducible rfl
              try simp only [Act.put, List.setIfInBounds_toArray, List.set_cons_zero, List.set_cons_succ]
              refine wpAnyH_ready (rs := [13]) (by kernel_rfl) (by simp) (AllReadyH.cons rfl (fun K hK => ?_) AllReadyH.nil)
              go_simp
              refine (Three.put h1.1.2.2 hR hlt HA.out HE.out).mono ?_
              rintro e w9 ⟨rfl, hm9, hT9, hg9⟩
              dsimp only
              refine hK.out _ _ ⟨hT9.full hlt HA.out HE.out, grown_cell hg9 (by show wn.heap.size ≠ r; omega) h1.2⟩ (fun _ => ?_)
              clear hK K
              refine wpAnyH_done (by kernel_rfl) ?_ _
              refine NoPanic.normal ?_
              go_wp2_with fail
              exact ⟨⟨0 + 1, by go_num, by omega, hm9, hT9.row, hT9.low⟩, by simp [intOf]; omega⟩
              -- end R15
            · obtain ⟨j, rfl⟩ : ∃ j, k = j + 1 := ⟨k - 1, by omega⟩
              obtain ⟨x1, _⟩ := cellsOf_at L j (by omega)
              have C2 : wr.cell? ⟨g, j * 2, none⟩ = some (.int .u32 (L[j]).1) := (hx.cellAt (j * 2) (by omega)).trans x1
              obtain ⟨A', hA'⟩ : ∃ A', A' = (L[j]).1 := ⟨_, rfl⟩
              have hle : A' < A := by
                rw [hA', HA.out]; exact HP.out _ (List.mem_take_iff_getElem.2 ⟨j, by omega, rfl⟩)
              rw [← hA'] at C2
              have hle' : decide (A ≤ A') = false := by simp; omega
              have hE0 : (E == 0) = false := by simp; omega
              have hI0 : (0 : Int) ≤ (j : Int) + 1 := by omega
              clear hA' x1 T hx hq hb HP
              go_wp2_with fail
              go_quiet (fail)
              have TN := HT.out.drewN nq
              have T9 := TN.drew.full hlt HA.out HE.out
              generalize wr.drewN nq = wn at TN T9 ⊢
              have hrn : r < wn.heap.size := by rcases TN.mem with m | m <;> exact m.lt'
              have hEr : 0 ≤ E ∧ E ≤ 255 := by omega
              go_wp2_with fail
              -- R15 (j + 1)
              refine wp_region_noPanic ?_
              refine wp_region_held_drew (S := (fun W => W.cell? ⟨g, (j + 1) * 2, none⟩ = some (.int .u32 A) ∧ W.cell? ⟨g, (j + 1) * 2 + 1, none⟩ = some (.int .u8 E) ∧ Three w B q r g L.length cp L (j + 1) W)) (by kernel_rfl) T9 (fun h0 => ?_)
              refine wpAnyH_take (i := 0) (v := ?_) rfl (by kernel_rfl) (by kernel_rfl) (by kernel_rfl) (fun _ _ _ h => h) (Or.inl ⟨by rfl, ?_⟩) h0 ?_
              rotate_left 1
              · intro w' hSw
                obtain ⟨s0, s1, _⟩ := hSw
                go_simp <;> with_reducible rfl
              try simp only [Act.put, List.setIfInBounds_toArray, List.set_cons_zero, List.set_cons_succ]
              refine wpAnyH_take (i := 1) (v := ?_) rfl (by kernel_rfl) (by kernel_rfl) (by kernel_rfl) (fun _ _ _ h => h) (Or.inl ⟨by rfl, ?_⟩) h0 ?_
              rotate_left 1
              · intro w' hSw
                obtain ⟨s0, s1, _⟩ := hSw
                go_simp <;> with_reducible rfl
              try simp only [Act.put, List.setIfInBounds_toArray, List.set_cons_zero, List.set_cons_succ]
              refine wpAnyH_take (i := 2) (v := ?_) rfl (by kernel_rfl) (by kernel_rfl) (by kernel_rfl) (fun _ _ _ h => h) (Or.inl ⟨by rfl, ?_⟩) h0 ?_
              rotate_left 1
              · intro w' hSw
                obtain ⟨s0, s1, _⟩ := hSw
                go_simp <;> with_reducible rfl
              try simp only [Act.put, List.setIfInBounds_toArray, List.set_cons_zero, List.set_cons_succ]
              refine wpAnyH_take (i := 3) (v := ?_) rfl (by kernel_rfl) (by kernel_rfl) (by kernel_rfl) (fun _ _ _ h => h) (Or.inl ⟨by rfl, ?_⟩) h0 ?_
              rotate_left 1
              · intro w' hSw
                obtain ⟨s0, s1, _⟩ := hSw
                go_simp <;> with_reducible rfl
              try simp only [Act.put, List.setIfInBounds_toArray, List.set_cons_zero, List.set_cons_succ]
              refine wpAnyH_take (i := 4) (v := ?_) rfl (by kernel_rfl) (by kernel_rfl) (by kernel_rfl) (fun _ _ _ h => h) (Or.inl ⟨by rfl, ?_⟩) h0 ?_
              rotate_left 1
              · intro w' hSw
                obtain ⟨s0, s1, _⟩ := hSw
                go_simp <;> with_reducible rfl
              try simp only [Act.put, List.setIfInBounds_toArray, List.set_cons_zero, List.set_cons_succ]
              refine wpAnyH_take (i := 5) (v := ?_) rfl (by kernel_rfl) (by kernel_rfl) (by kernel_rfl) (fun _ _ _ h => h) (Or.inl ⟨by rfl, ?_⟩) h0 ?_
              rotate_left 1
              · intro w' hSw
                obtain ⟨s0, s1, _⟩ := hSw
                go_simp <;> with_reducible rfl
              try simp only [Act.put, List.setIfInBounds_toArray, List.set_cons_zero, List.set_cons_succ]
              refine wpAnyH_take (i := 6) (v := ?_) rfl (by kernel_rfl) (by kernel_rfl) (by kernel_rfl) (fun _ _ _ h => h) (Or.inl ⟨by rfl, ?_⟩) h0 ?_
              rotate_left 1
              · intro w' hSw
                obtain ⟨s0, s1, _⟩ := hSw
                go_simp <;> with_reducible rfl
              try simp only [Act.put, List.setIfInBounds_toArray, List.set_cons_zero, List.set_cons_succ]
              refine wpAnyH_take (i := 7) (v := ?_) rfl (by kernel_rfl) (by kernel_rfl) (by kernel_rfl) (fun _ _ _ h => h) (Or.inl ⟨by rfl, ?_⟩) h0 ?_
              rotate_left 1
              · intro w' hSw
                obtain ⟨s0, s1, _⟩ := hSw
                go_simp <;> with_reducible rfl
              try simp only [Act.put, List.setIfInBounds_toArray, List.set_cons_zero, List.set_cons_succ]
              refine wpAnyH_take (i := 8) (v := ?_) rfl (by kernel_rfl) (by kernel_rfl) (by kernel_rfl) (fun _ _ _ h => h) (Or.inl ⟨by rfl, ?_⟩) h0 ?_
              rotate_left 1
              · intro w' hSw
                obtain ⟨s0, s1, _⟩ := hSw
                go_simp <;> with_reducible rfl
              try simp only [Act.put, List.setIfInBounds_toArray, List.set_cons_zero, List.set_cons_succ]
              refine wpAnyH_take (i := 9) (v := ?_) rfl (by kernel_rfl) (by kernel_rfl) (by kernel_rfl) (fun _ _ _ h => h) (Or.inl ⟨by rfl, ?_⟩) h0 ?_
              rotate_left 1
              · intro w' hSw
                obtain ⟨s0, s1, _⟩ := hSw
                go_simp <;> with_reducible rfl
              try simp only [Act.put, List.setIfInBounds_toArray, List.set_cons_zero, List.set_cons_succ]
              refine wpAnyH_take (i := 10) (v := ?_) rfl (by kernel_rfl) (by kernel_rfl) (by kernel_rfl) (fun _ _ _ h => h) (Or.inl ⟨by rfl, ?_⟩) h0 ?_
              rotate_left 1
              · intro w' hSw
                obtain ⟨s0, s1, _⟩ := hSw
                go_simp <;> with_reducible rfl
              try simp only [Act.put, List.setIfInBounds_toArray, List.set_cons_zero, List.set_cons_succ]
              refine wpAnyH_ready (rs := [11]) (by kernel_rfl) (by simp) (AllReadyH.cons rfl (fun K hK => ?_) AllReadyH.nil)
              go_simp
              have h1 : (fun W => (W.cell? ⟨g, (j + 1) * 2, none⟩ = some (.int .u32 A) ∧ W.cell? ⟨g, (j + 1) * 2 + 1, none⟩ = some (.int .u8 E) ∧ Three w B q r g L.length cp L (j + 1) W) ∧ W.cell? ⟨wn.heap.size, 0, none⟩ = some (.int .u8 E)) ((wn.alloc (.cells #[.int .u8 E] 5)).drew) := ⟨(TN.alloc _).drew.full hlt HA.out HE.out, by show (wn.alloc _).cell? _ = _; rw [World.cell?_alloc_at _ _ _ _ rfl]; rfl⟩
              refine hK.out _ _ h1.1 (fun _ => ?_)
              clear hK K
              refine wpAnyH_more3 (S' := (fun W => (W.cell? ⟨g, (j + 1) * 2, none⟩ = some (.int .u32 A) ∧ W.cell? ⟨g, (j + 1) * 2 + 1, none⟩ = some (.int .u8 E) ∧ Three w B q r g L.length cp L (j + 1) W) ∧ W.cell? ⟨wn.heap.size, 0, none⟩ = some (.int .u8 E))) (fun _ h => h.1) _ _ _ _ ?_
              try simp only [Act.put, List.setIfInBounds_toArray, List.set_cons_zero, List.set_cons_succ]
              refine wpAnyH_take (i := 12) (v := ?_) rfl (by kernel_rfl) (by kernel_rfl) (by kernel_rfl) (fun _ _ _ h => h) (Or.inl ⟨by rfl, ?_⟩) h1 ?_
              rotate_left 1
              · intro w' hSw
                have hcv := one_byte hEr hSw.2
                clear hSw
                go_simp <;> with_reducible rfl
              try simp only [Act.put, List.setIfInBounds_toArray, List.set_cons_zero, List.set_cons_succ]
              refine wpAnyH_ready (rs := [13]) (by kernel_rfl) (by simp) (AllReadyH.cons rfl (fun K hK => ?_) AllReadyH.nil)
              go_simp
              refine (Three.put h1.1.2.2 hR hlt HA.out HE.out).mono ?_
              rintro e w9 ⟨rfl, hm9, hT9, hg9⟩
              dsimp only
              refine hK.out _ _ ⟨hT9.full hlt HA.out HE.out, grown_cell hg9 (by show wn.heap.size ≠ r; omega) h1.2⟩ (fun _ => ?_)
              clear hK K
              refine wpAnyH_done (by kernel_rfl) ?_ _
              refine NoPanic.normal ?_
              go_wp2_with fail
              exact ⟨⟨(j + 1) + 1, by go_num, by omega, hm9, hT9.row, hT9.low⟩, by simp [intOf]; omega⟩
              -- end R15
          · obtain rfl : k = L.length := by omega
            rw [List.take_length] at hq
            go_wp2_with fail
            refine (cells_any wr hq).mono ?_
            rintro e w4 ⟨y, rfl, hy4, hb4⟩
            have hx4 := hx.kept (row := none) ⟨hb4.os, hb4.tape, hb4.output, hb4.size, fun k hk _ => hb4.block k hk⟩ (by cases (Value.slice ad' L.length cp).ownBlock <;> simp)
            have hb4' : Below w.heap.size w w4 := hb.trans (hb4.mono hb.size)
            clear hx hb hq hb4
            go_wp2_with fail
            refine (same_yes w4 hy4 hx4 hRL).mono ?_
            rintro e w5 ⟨rfl, n5, hw5⟩
            have hb5 : Below w.heap.size w w5 := by rw [hw5]; exact hb4'.trans (drewN_below w4 n5 _)
            clear hw5 hy4 hx4
            go_wp2_with fail
            refine (fixed3_any w5).mono ?_
            rintro e w6 ⟨rfl, hb6⟩
            go_wp2_with fail
            go_ret
            exact ⟨rfl, hb5.trans (hb6.mono hb5.size)⟩
end Go.Proofs.Ytmhgighiekncfaa
namespace Go.Proofs.Ytmhgighiekncfaa.memCells
open Go.ChangeShapes Go.WideShapes Go.ChangeAt Go.RowKit
open Go.ChangeMaps (open_string shut_string)
set_option linter.unusedVariables false

theorem own : ownKnob Try.prog.godebug = none := by kernel_rfl

set_option maxRecDepth 100000 in
theorem lifted (os : Os) (started : os.Started) (H : Type) (enc : TypeId × Value → H) :
    ReturnsInHanded {} Try.checked os 7 .any (Rows.memCellsSpec.pre6 enc Try.prog Try.f7 Rows.memCellsRow.domain false) (Rows.memCellsSpec.post enc Try.prog Try.f7 false true false false) := by
  refine returnsInHanded_of_change (C := Try.checked) own started (by kernel_rfl) Try.func7
    (ChangeSpec.witness6 (enc := enc) (C := Try.checked) false ⟨#[], #[.slice none 0 0], []⟩ 8 (by kernel_rfl) (by kernel_rfl) (by kernel_rfl) (by kernel_rfl)) ?_
  intro W base args ds gs before hval0 hW hcnd _
  have hval : ∀ (j : Nat) t v, Try.f7.params[j]? = some t → args[j]? = some v → Value.okWide Try.prog W .any base t v := hval0
  have hW' := hW
  obtain ⟨p, q, hA0, hV, rfl, hfz, hnd⟩ := hW
  have hA : DataW.TrodAll enc Try.prog W 0 (fun _ => true) true Try.f7.params.toList args.toList ds p := hA0
  rw [Try.params7] at hA hval
  obtain ⟨v0, vs0, d0, ds0, p0, q0, hargs, rfl, rfl, h0, r0⟩ := trodAll_cons hA
  obtain ⟨rfl, rfl, rfl⟩ := trodAll_nil r0
  obtain rfl : args = #[v0] := by cases args; simp_all
  obtain ⟨rfl, rfl⟩ := trodVars_none hV
  have hv0 := hval 0 22 v0 rfl rfl
  obtain ⟨n, ops, _, hsc⟩ := open_script hv0 h0
  clear hA0 hval0
  simp only [List.append_nil] at hW'
  refine (memCells_walk v0 n ops W hsc).mono fun e W' ⟨he, hg⟩ => ?_
  subst he
  exact ⟨_, rfl, _, _, _, [], _, [], hW', trodAll_mk1 (shut_bool Try.underlying4 _), trodAll_cons_mk (again_script hg hv0 h0 (fun b hb => by simpa using hb)) trodAll_mk0, rfl, hg.frame _, fun h => by cases h⟩

theorem over : Rows.memCellsRow.holds Try.pinned (OpenSpec.ofChange Rows.memCellsSpec) :=
  OpenClaim.holds_of_wide 7 Try.f7 rfl rfl rfl rfl rfl rfl rfl ⟨rfl, rfl, rfl, rfl, rfl⟩ rfl rfl rfl rfl rfl (by kernel_rfl) Try.func7 (by kernel_rfl)
    (of_decide_eq_true (by kernel_rfl)) (by unfold Func.isWrapper; first | (rw [if_pos (by decide +kernel)]; kernel_rfl) | (rw [if_neg (by decide +kernel)]; exact ⟨rfl, rfl⟩))
    (fun os started H enc _ => lifted os started H enc)

theorem proved : Rows.MemCellsSaid :=
  over
#print axioms proved
end Go.Proofs.Ytmhgighiekncfaa.memCells
