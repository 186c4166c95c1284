/-
  A slice of segments in memory; contract of package elf's look: what is odd about a program.
-/
import Derived.Test.YtkfomhllaogplaaEC
namespace Go.Proofs.Ytkfomhllaogplaa
open Go.RowKit El Go.Lib
open Classical
set_option linter.unusedSimpArgs false

def csS (l : List Seg) : List Value := l.flatMap fun g => [.int .u32 (g.addr.toNat : Int), .string ⟨g.data.toArray⟩, .int .i64 g.size, .int .i64 g.flags]
theorem csS_app (l r : List Seg) : csS (l ++ r) = csS l ++ csS r := by simp [csS]
theorem csS_len (l : List Seg) : (csS l).length = l.length * 4 := by
  induction l with
  | nil => rfl
  | cons p r ih => unfold csS at ih ⊢; rw [List.flatMap_cons, List.length_append, ih]; simp; omega
theorem csS_at (l : List Seg) (i : Nat) (x : Seg) (h : l[i]? = some x) : (csS l)[i * 4]? = some (.int .u32 (x.addr.toNat : Int)) ∧ (csS l)[i * 4 + 1]? = some (.string ⟨x.data.toArray⟩) ∧ (csS l)[i * 4 + 2]? = some (.int .i64 x.size) ∧ (csS l)[i * 4 + 3]? = some (.int .i64 x.flags) := by
  induction l generalizing i with
  | nil => simp at h
  | cons a l ih =>
    have e : csS (a :: l) = [.int .u32 (a.addr.toNat : Int), .string ⟨a.data.toArray⟩, .int .i64 a.size, .int .i64 a.flags] ++ csS l := by simp [csS]
    cases i with
    | zero => simp at h; subst h; rw [e]; simp
    | succ i =>
      have ih := ih i (by simpa using h)
      rw [e]
      have q : ∀ k, ([Value.int .u32 (a.addr.toNat : Int), .string ⟨a.data.toArray⟩, .int .i64 a.size, .int .i64 a.flags] ++ csS l)[(i + 1) * 4 + k]? = (csS l)[i * 4 + k]? := fun k => by
        rw [List.getElem?_append_right (by simp; omega)]; congr 1; simp; omega
      have q0 := q 0
      simp only [Nat.add_zero] at q0
      rw [q0, q 1, q 2, q 3]; exact ih
/-- A slice of segments. -/
def SlS (W : World) (v : Value) (l : List Seg) : Prop :=
  (∃ p c, v = .slice p 0 c ∧ l = []) ∨ ∃ g o cap, v = .slice (some ⟨g, o, none⟩) l.length cap ∧ l.length ≤ cap ∧ g < W.heap.size ∧ ∀ j, j < l.length * 4 → W.cell? ⟨g, o + j, none⟩ = (csS l)[j]?
theorem SlS.belowB {B : Nat} {W W' : World} {v : Value} {l : List Seg} (h : SlS W v l) (hb : Below B W W') (hB : W.heap.size ≤ B) : SlS W' v l := by
  rcases h with h | ⟨g, o, cap, rfl, hl, hg, hc⟩
  · exact .inl h
  · exact .inr ⟨g, o, cap, rfl, hl, Nat.lt_of_lt_of_le hg hb.size, fun j hj => by rw [hb.cell (by exact Nat.lt_of_lt_of_le hg hB)]; exact hc j hj⟩
theorem SlS.below {W W' : World} {v : Value} {l : List Seg} (h : SlS W v l) (hb : Below W.heap.size W W') : SlS W' v l := h.belowB hb (Nat.le_refl _)
theorem SlS.len {W : World} {v : Value} {l : List Seg} (h : SlS W v l) : ∃ p c, v = .slice p l.length c ∧ (0 < l.length → l.length ≤ c) := by
  rcases h with ⟨p, c, rfl, rfl⟩ | ⟨g, o, cap, rfl, hl, _⟩
  · exact ⟨_, _, rfl, fun h => by simp at h⟩
  · exact ⟨_, _, rfl, fun _ => hl⟩
theorem SlS.at {W : World} {g o : Nat} {l : List Seg} (hc : ∀ j, j < l.length * 4 → W.cell? ⟨g, o + j, none⟩ = (csS l)[j]?) (i : Nat) (x : Seg) (h : l[i]? = some x) :
    W.cell? ⟨g, o + i * 4, none⟩ = some (.int .u32 (x.addr.toNat : Int)) ∧ W.cell? ⟨g, o + i * 4 + 1, none⟩ = some (.string ⟨x.data.toArray⟩) ∧ W.cell? ⟨g, o + i * 4 + 2, none⟩ = some (.int .i64 x.size) ∧ W.cell? ⟨g, o + i * 4 + 3, none⟩ = some (.int .i64 x.flags) := by
  have hi : i < l.length := (List.getElem?_eq_some_iff.1 h).1
  obtain ⟨a, b, c, d⟩ := csS_at l i x h
  refine ⟨(hc _ (by omega)).trans a, ?_, ?_, ?_⟩
  · rw [Nat.add_assoc]; exact (hc _ (by omega)).trans b
  · rw [Nat.add_assoc]; exact (hc _ (by omega)).trans c
  · rw [Nat.add_assoc]; exact (hc _ (by omega)).trans d
def NoMeet (l : List Seg) (k : Nat) : Prop := ∀ i j g h, i < k → j < i → l[i]? = some g → l[j]? = some h → g.apart h
theorem NoMeet.all {l : List Seg} (h : NoMeet l l.length) : ¬ Meets l := fun ⟨i, j, g, k, hij, hi, hj, hn⟩ => hn (h i j g k (List.getElem?_eq_some_iff.1 hi).1 hij hi hj)
def prgV (x : Prg) (v : Value) : Value := .agg #[.int .u32 (x.entry.toNat : Int), .int .u32 (x.flags.toNat : Int), v]
/-- While look is at work: the program's box. -/
structure LookAt (w : World) (E F : Int) (v : Value) (W : World) : Prop where
  box : W.heap[w.heap.size]? = some (.cells #[.int .u32 E, .int .u32 F, v] 25 (0, 0))
  low : Below w.heap.size w W
theorem LookAt.below {w W W' : World} {E F : Int} {v : Value} (h : LookAt w E F v W) (hb : Below W.heap.size W W') : LookAt w E F v W' := ⟨keptN hb h.box, h.low.trans (hb.mono h.low.size)⟩
theorem LookAt.new (w : World) (E F : Int) (v : Value) : LookAt w E F v (w.alloc (.cells #[.int .u32 E, .int .u32 F, v] 25)) := ⟨heap_alloc_new w _, (Below.refl _ w).alloc (Nat.le_refl _) _⟩
theorem three {W : World} {b : Nat} {a0 a1 a2 : Value} {t : TypeId} (h : W.heap[b]? = some (.cells #[a0, a1, a2] t (0, 0))) :
    (W.cell? ⟨b, 0, none⟩ = some a0 ∧ W.cell? ⟨b, 1, none⟩ = some a1 ∧ W.cell? ⟨b, 2, none⟩ = some a2) ∧
    (W.frozen? ⟨b, 0, none⟩ = false ∧ W.frozen? ⟨b, 1, none⟩ = false ∧ W.frozen? ⟨b, 2, none⟩ = false) := by
  simp [World.cell?, World.frozen?, h]

theorem slsCells {W : World} {g o c : Nat} {l : List Seg} (h : SlS W (.slice (some ⟨g, o, none⟩) l.length c) l) (hl : 0 < l.length) : (∀ j, j < l.length * 4 → W.cell? ⟨g, o + j, none⟩ = (csS l)[j]?) ∧ g < W.heap.size := by
  rcases h with ⟨_, _, e, e'⟩ | ⟨g', o', c', e, _, hg, hc⟩
  · subst e'; simp at hl
  · injection e with e1 e2 e3
    injection e1 with e1
    injection e1 with e4 e5 e6
    subst e4 e5
    exact ⟨hc, hg⟩
/-- While look's inner loop is at work: the segment's box. -/
structure InLook (w : World) (E F : Int) (v : Value) (b : Nat) (x : Seg) (W : World) : Prop where
  at' : LookAt w E F v W
  seg : W.heap[b]? = some (.cells #[.int .u32 (x.addr.toNat : Int), .string ⟨x.data.toArray⟩, .int .i64 x.size, .int .i64 x.flags] 42 (0, 0))
theorem InLook.new {w W : World} {E F : Int} {v : Value} (h : LookAt w E F v W) (x : Seg) : InLook w E F v W.heap.size x (W.alloc (.cells #[.int .u32 (x.addr.toNat : Int), .string ⟨x.data.toArray⟩, .int .i64 x.size, .int .i64 x.flags] 42)) :=
  ⟨h.below ((Below.refl _ W).alloc (Nat.le_refl _) _), heap_alloc_new W _⟩
theorem InLook.below {w W W' : World} {E F : Int} {v : Value} {b : Nat} {x : Seg} (h : InLook w E F v b x W) (hb : Below W.heap.size W W') : InLook w E F v b x W' := ⟨h.at'.below hb, keptN hb h.seg⟩
theorem look_big (E F : Int) (p : Option Addr) (n c : Nat) (hn : 16 < n) (w : World) :
    Calls Try.prog 45 #[.agg #[.int .u32 E, .int .u32 F, .slice p n c]] w fun e w' => e = ends 2 (.tuple #[]) ∧ Below w.heap.size w w' := by
  have hd : decide ((n : Int) ≤ 16) = false := decide_eq_false (by omega)
  go_enter Try.func45, Try.ntmps45
  go_wp2_with (go_at_call 59; refine (insist_no _ _ _).mono ?_; rintro e w1 ⟨rfl, rfl⟩)
  exact ⟨rfl, rfl, (Below.refl _ w).alloc (Nat.le_refl _) _⟩
set_option maxRecDepth 100000 in
set_option maxHeartbeats 4000000 in
theorem look_core (E F : Int) (g o c : Nat) (l : List Seg) (hl : l.length ≤ 16) (hlc : l.length ≤ c) (hfit : ∀ x ∈ l, Fits x) (w : World) (hS : SlS w (.slice (some ⟨g, o, none⟩) l.length c) l) :
    Calls Try.prog 45 #[.agg #[.int .u32 E, .int .u32 F, .slice (some ⟨g, o, none⟩) l.length c]] w fun e w' => e = ends (chk l) (.tuple #[]) ∧ Below w.heap.size w w' := by
  have hd : decide ((l.length : Int) ≤ 16) = true := decide_eq_true (by omega)
  have HS := hideE hS
  have HF := hideE hfit
  clear hS hfit
  go_enter Try.func45, Try.ntmps45
  go_wp2_with (go_at_call 59; refine (insist_yes _ _).mono ?_; rintro e w1 ⟨rfl, rfl⟩)
  go_loopg [18] l.length (fun q i wr => ∃ k : Nat, k + q = l.length ∧ i = .int .i64 (k : Int) ∧ (∀ j x, j < k → l[j]? = some x → x.may) ∧ LookAt w E F (.slice (some ⟨g, o, none⟩) l.length c) wr)
  case atStart => exact ⟨0, by omega, rfl, fun j x hj => by omega, LookAt.new w _ _ _⟩
  case round =>
    obtain ⟨k, hkq, rfl, hmay, hL⟩ := hrel
    have HM := hideE hmay
    clear hmay
    cases gk with
    | zero =>
      have hk : ¬ ((k : Int) < (l.length : Int)) := by omega
      have hall : ∀ x ∈ l, x.may := fun x hx => by
        obtain ⟨j, hj⟩ := List.getElem?_of_mem hx
        exact HM.out j x (by have := (List.getElem?_eq_some_iff.1 hj).1; omega) hj
      have HA := hideE hall
      clear hall HM
      obtain ⟨⟨a0, a1, a2⟩, _⟩ := three hL.box
      go_wp2_with fail
      go_loopg [31] l.length (fun q i wx => ∃ k : Nat, k + q = l.length ∧ i = .int .i64 (k : Int) ∧ NoMeet l k ∧ LookAt w E F (.slice (some ⟨g, o, none⟩) l.length c) wx)
      case atStart => exact ⟨0, by omega, rfl, fun i j g h hi => by omega, hL⟩
      case round =>
        clear a0 a1 a2 hL hkq hk
        obtain ⟨k, hkq, rfl, hno, hL⟩ := hrel
        obtain ⟨wx, hwx⟩ : ∃ wx, wx = wr := ⟨_, rfl⟩
        subst hwx
        have HN := hideE hno
        clear hno
        cases gk with
        | zero =>
          obtain rfl : k = l.length := by omega
          have hk : ¬ ((l.length : Int) < (l.length : Int)) := by omega
          go_wp2_with fail
          go_end0
          exact ⟨by rw [chk_ok hl HA.out HN.out.all]; rfl, hL.low⟩
        | succ q =>
          have hk : ((k : Int) < (l.length : Int)) := by omega
          have hk0 : (0 : Int) ≤ (k : Int) := by omega
          have hkc : (k : Int) ≤ (c : Int) := by omega
          have hwk : IntKind.i64.wrap ((k : Int) + 1) = (k : Int) + 1 := wrE (by omega) (by omega)
          obtain ⟨x, hx⟩ : ∃ x, l[k]? = some x := ⟨l[k]'(by omega), List.getElem?_eq_getElem (by omega)⟩
          obtain ⟨hc, _⟩ := slsCells (HS.out.below hL.low) (by omega)
          obtain ⟨⟨a0, a1, a2⟩, _⟩ := three hL.box
          obtain ⟨b0, b1, b2, b3⟩ := SlS.at hc k x hx
          have hxm := HA.out x (List.mem_of_getElem? hx)
          have a2n : ∀ ob, (wx.alloc ob).cell? ⟨w.heap.size, 2, none⟩ = some (.slice (some ⟨g, o, none⟩) l.length c) := fun ob => (three (keptN ((Below.refl _ wx).alloc (Nat.le_refl _) ob) hL.box)).1.2.2
          have Hx := hideE hx
          have HL := hideE hL
          clear hx hL hc
          go_wp2_with fail
          refine gen_world (InLook w E F (.slice (some ⟨g, o, none⟩) l.length c) wx.heap.size x) (InLook.new HL.out x) ?_
          intro wy hI
          go_loopg [41] k (fun q i wz => ∃ m : Nat, m + q = k ∧ i = .int .i64 (m : Int) ∧ (∀ j h, j < m → l[j]? = some h → x.apart h) ∧ InLook w E F (.slice (some ⟨g, o, none⟩) l.length c) wx.heap.size x wz)
          case atStart => exact ⟨0, by omega, rfl, fun j h hj => by omega, hI⟩
          case round =>
            clear hI a0 a1 a2 b0 b1 b2 b3
            obtain ⟨m, hmq, rfl, hap, hI⟩ := hrel
            obtain ⟨wz, hwz⟩ : ∃ wz, wz = wr := ⟨_, rfl⟩
            subst hwz
            have HP := hideE hap
            clear hap
            cases gk with
            | zero =>
              obtain rfl : m = k := by omega
              have hk9 : ¬ ((m : Int) < (m : Int)) := by omega
              go_wp2_with fail
              go_roundg q
              case measure => omega
              case rel =>
                exact ⟨m + 1, by omega, by simp, fun i j g' h' hi hj hg hh => by
                  by_cases e : i = m
                  · subst e; rw [Hx.out] at hg; injection hg with hg; subst hg; exact HP.out j h' hj hh
                  · exact HN.out i j g' h' (by omega) hj hg hh, hI.at'⟩
            | succ r =>
              have hm1 : ((m : Int) < (k : Int)) := by omega
              have hm0 : (0 : Int) ≤ (m : Int) := by omega
              have hwm : IntKind.i64.wrap ((m : Int) + 1) = (m : Int) + 1 := wrE (by omega) (by omega)
              obtain ⟨y, hy⟩ : ∃ y, l[m]? = some y := ⟨l[m]'(by omega), List.getElem?_eq_getElem (by omega)⟩
              obtain ⟨hc, _⟩ := slsCells (HS.out.below hI.at'.low) (by omega)
              obtain ⟨b0, b1, b2, b3⟩ := SlS.at hc m y hy
              obtain ⟨⟨x0, x1, x2, x3⟩, _⟩ := four hI.seg
              have hym := HA.out y (List.mem_of_getElem? hy)
              have xn : ∀ ob, _ := fun ob => (four (keptN ((Below.refl _ wz).alloc (Nat.le_refl _) ob) hI.seg)).1
              have xn0 := fun ob => (xn ob).1
              have xn1 := fun ob => (xn ob).2.1
              have xn2 := fun ob => (xn ob).2.2.1
              have xn3 := fun ob => (xn ob).2.2.2
              clear xn
              have Hy := hideE hy
              have HI := hideE hI
              clear hy hI hc
              by_cases hm : x.apart y
              · have Hm := hideE hm
                clear hm
                go_wp2_with (first
                  | (go_at_call 61; refine (apart_any x y hxm hym _).mono ?_; rintro e w1 ⟨he, hb1⟩; rw [decide_eq_true Hm.out] at he; subst he)
                  | (go_at_call 59; refine (insist_yes _ _).mono ?_; rintro e w2 ⟨rfl, rfl⟩))
                go_roundg r
                case measure => omega
                case rel =>
                  exact ⟨m + 1, by omega, by simp, fun j h hj hh => by
                    by_cases e : j = m
                    · subst e; rw [Hy.out] at hh; injection hh with hh; subst hh; exact Hm.out
                    · exact HP.out j h (by omega) hh, HI.out.below (((Below.refl _ _).alloc (Nat.le_refl _) _).trans (hb1.mono (by simp)))⟩
              · have Hm := hideE hm
                clear hm
                have hmeet : Meets l := ⟨k, m, x, y, by omega, Hx.out, Hy.out, Hm.out⟩
                have HC := hideE (chk_meet hl HA.out hmeet)
                clear hmeet
                go_wp2_with (first
                  | (go_at_call 61; refine (apart_any x y hxm hym _).mono ?_; rintro e w1 ⟨he, hb1⟩; rw [decide_eq_false Hm.out] at he; subst he)
                  | (go_at_call 59; refine (insist_no _ _ _).mono ?_; rintro e w2 ⟨rfl, rfl⟩))
                exact ⟨rfl, by rw [HC.out]; rfl, (HI.out.below (((Below.refl _ _).alloc (Nat.le_refl _) _).trans (hb1.mono (by simp)))).at'.low⟩
    | succ q =>
      have hk : ((k : Int) < (l.length : Int)) := by omega
      have hk0 : (0 : Int) ≤ (k : Int) := by omega
      have hwk : IntKind.i64.wrap ((k : Int) + 1) = (k : Int) + 1 := wrE (by omega) (by omega)
      obtain ⟨x, hx⟩ : ∃ x, l[k]? = some x := ⟨l[k]'(by omega), List.getElem?_eq_getElem (by omega)⟩
      obtain ⟨hc, _⟩ := slsCells (HS.out.below hL.low) (by omega)
      have hxf := HF.out x (List.mem_of_getElem? hx)
      obtain ⟨b0, b1, b2, b3⟩ := SlS.at hc k x hx
      have Hx := hideE hx
      have HL := hideE hL
      clear hx hc hL
      by_cases hm : x.may
      · have Hm := hideE hm
        clear hm
        go_wp2_with (first
          | (go_at_call 60; refine (mayBe_any x hxf _).mono ?_; rintro e w1 ⟨he, hb1⟩; rw [decide_eq_true Hm.out] at he; subst he)
          | (go_at_call 59; refine (insist_yes _ _).mono ?_; rintro e w2 ⟨rfl, rfl⟩))
        go_roundg q
        case measure => omega
        case rel =>
          exact ⟨k + 1, by omega, by simp, fun j y hj hy => by
            by_cases e : j = k
            · subst e; rw [Hx.out] at hy; injection hy with hy; subst hy; exact Hm.out
            · exact HM.out j y (by omega) hy, HL.out.below (((Below.refl _ _).alloc (Nat.le_refl _) _).trans (hb1.mono (by simp)))⟩
      · have HC := hideE (chk_form hl (List.mem_of_getElem? Hx.out) hm)
        have Hm := hideE hm
        clear hm
        go_wp2_with (first
          | (go_at_call 60; refine (mayBe_any x hxf _).mono ?_; rintro e w1 ⟨he, hb1⟩; rw [decide_eq_false Hm.out] at he; subst he)
          | (go_at_call 59; refine (insist_no _ _ _).mono ?_; rintro e w2 ⟨rfl, rfl⟩))
        exact ⟨rfl, by rw [HC.out]; rfl, (HL.out.below (((Below.refl _ _).alloc (Nat.le_refl _) _).trans (hb1.mono (by simp)))).low⟩
theorem look_none (E F : Int) (p : Option Addr) (c : Nat) (w : World) :
    Calls Try.prog 45 #[.agg #[.int .u32 E, .int .u32 F, .slice p 0 c]] w fun e w' => e = .returned (.tuple #[]) ∧ Below w.heap.size w w' := by
  have hb0 : Below w.heap.size w (w.alloc (.cells #[.int .u32 E, .int .u32 F, .slice p 0 c] 25)) := (Below.refl _ w).alloc (Nat.le_refl _) _
  obtain ⟨⟨a0, a1, a2⟩, _⟩ := three (LookAt.new w E F (.slice p 0 c)).box
  go_enter Try.func45, Try.ntmps45
  go_wp2_with (go_at_call 59; refine (insist_yes _ _).mono ?_; rintro e w1 ⟨rfl, rfl⟩)
  go_loopg [18] 0 (fun _ i wr => i = .int .i64 0 ∧ LookAt w E F (.slice p 0 c) wr)
  case atStart => exact ⟨rfl, LookAt.new w _ _ _⟩
  case round =>
    clear a0 a1 a2
    obtain ⟨rfl, hL⟩ := hrel
    obtain ⟨⟨a0, a1, a2⟩, _⟩ := three hL.box
    go_wp2_with fail
    go_loopg [31] 0 (fun _ i wx => i = .int .i64 0 ∧ LookAt w E F (.slice p 0 c) wx)
    case atStart => exact ⟨rfl, hL⟩
    case round =>
      clear a0 a1 a2 hL
      obtain ⟨rfl, hL⟩ := hrel
      go_wp2_with fail
      go_end0
      exact ⟨rfl, hL.low⟩
/-- What look does with any program. -/
theorem look_any (E F : Int) (v : Value) (l : List Seg) (hfit : ∀ x ∈ l, Fits x) (w : World) (hS : SlS w v l) :
    Calls Try.prog 45 #[.agg #[.int .u32 E, .int .u32 F, v]] w fun e w' => e = ends (chk l) (.tuple #[]) ∧ Below w.heap.size w w' := by
  by_cases h16 : 16 < l.length
  · obtain ⟨p, c, rfl, _⟩ := hS.len
    rw [chk_big h16]; exact look_big E F p l.length c h16 w
  · rcases hS with ⟨p, c, rfl, rfl⟩ | ⟨g, o, c, rfl, hlc, hg, hc⟩
    · rw [chk_ok (by simp) (fun x hx => by simp at hx) (fun ⟨i, j, g, h, _, hi, _⟩ => by simp at hi)]
      exact look_none E F p c w
    · exact look_core E F g o c l (by omega) hlc hfit w (.inr ⟨g, o, c, rfl, hlc, hg, hc⟩)
end Go.Proofs.Ytkfomhllaogplaa
