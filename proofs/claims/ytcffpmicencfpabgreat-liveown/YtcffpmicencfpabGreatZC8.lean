/-
  Contracts of blocks.last and blocks.begins: a block's last address, and the block that begins at an address, by halving.
  Which blocks stand behind one, plain; contract of blocks.Next.
  The walk of blocks.Next.
-/

import Derived.Test.YtcffpmicencfpabGreatZC7
namespace Go.Proofs.YtcffpmicencfpabGreat
open Go.RowKit Go.Lib Go.Sort Go.Maps Ip Bl Pm
set_option linter.unusedSimpArgs false
set_option linter.unusedVariables false

/-- A slice of blocks. -/
def SlB (W : World) (v : Value) (l : List (Nat × Nat)) : Prop :=
  (∃ p c, v = .slice p 0 c ∧ l = []) ∨ ∃ g cap, v = .slice (some ⟨g, 0, none⟩) l.length cap ∧ g < W.heap.size ∧ ∀ (j : Nat) (b : Nat × Nat), l[j]? = some b → W.cell? ⟨g, j * 2, none⟩ = some (.int .u32 (b.1 : Int)) ∧ W.cell? ⟨g, j * 2 + 1, none⟩ = some (.int .i64 (b.2 : Int))
theorem SlB.below {W W' : World} {v : Value} {l : List (Nat × Nat)} (h : SlB W v l) (hb : Below W.heap.size W W') : SlB W' v l := by
  rcases h with h | ⟨g, cap, rfl, hg, hc⟩
  · exact .inl h
  · exact .inr ⟨g, cap, rfl, Nat.lt_of_lt_of_le hg hb.size, fun j b hj => ⟨by rw [hb.cell (by exact hg)]; exact (hc j b hj).1, by rw [hb.cell (by exact hg)]; exact (hc j b hj).2⟩⟩
theorem slb_of_owns {W : World} {B : Nat} {v : Value} {l : List (Nat × Nat)} (h : W.ownsRow B 45 2 v l.length (cellsB l)) : SlB W v l := by
  rcases h.2 with ⟨rfl, hn⟩ | ⟨g, cap, cur, rfl, h2, h3, h4, _⟩
  · exact .inl ⟨none, 0, rfl, List.eq_nil_of_length_eq_zero hn⟩
  · refine .inr ⟨g, cap, rfl, (Array.getElem?_eq_some_iff.1 h3).1, fun j b hj => ?_⟩
    have hl := (List.getElem?_eq_some_iff.1 hj).1
    obtain ⟨h5, h6⟩ := cellsB_at l j b hj
    exact ⟨by rw [h.cellAt _ (by omega)]; exact h5, by rw [h.cellAt _ (by omega)]; exact h6⟩
theorem SlB.len {W : World} {v : Value} {l : List (Nat × Nat)} (h : SlB W v l) : ∃ p c, v = .slice p l.length c := by
  rcases h with ⟨p, c, rfl, rfl⟩ | ⟨g, cap, rfl, _⟩
  · exact ⟨_, _, rfl⟩
  · exact ⟨_, _, rfl⟩
theorem SlB.at {W : World} {p : Option Addr} {n c : Nat} {l : List (Nat × Nat)} (h : SlB W (.slice p n c) l) {k : Nat} {b : Nat × Nat} (hk : l[k]? = some b) : ∃ g, p = some ⟨g, 0, none⟩ ∧ W.cell? ⟨g, k * 2, none⟩ = some (.int .u32 (b.1 : Int)) ∧ W.cell? ⟨g, k * 2 + 1, none⟩ = some (.int .i64 (b.2 : Int)) := by
  rcases h with ⟨_, _, _, rfl⟩ | ⟨g, cap, e, _, hc⟩
  · simp at hk
  · injection e with e1 e2 e3
    exact ⟨g, e1, hc k b hk⟩
def lastA (b : Nat × Nat) : Nat := (b.1 + 4 * (b.2 - 1)) % 4294967296
def blkV (b : Nat × Nat) : Value := .agg #[.int .u32 (b.1 : Int), .int .i64 (b.2 : Int)]
theorem last_eq (x y : Nat) (hy : 1 ≤ y) (hy2 : y ≤ 4294967296) : ((x : Int) + 4 * ((y : Int) - 1) % 4294967296) % 4294967296 = (lastA (x, y) : Int) := by
  unfold lastA
  simp only
  omega
set_option maxHeartbeats 1000000 in
theorem last_any (x y : Nat) (hx : x < 4294967296) (hy : 1 ≤ y) (hy2 : y ≤ 4294967296) (w : World) : Calls Tryz.prog 47 #[blkV (x, y)] w fun e w' => e = .returned (.int .u32 (lastA (x, y) : Int)) ∧ Below w.heap.size w w' := by
  have e1 := last_eq x y hy hy2
  have e2 : IntKind.i64.wrap ((y : Int) - 1) = (y : Int) - 1 := wrE (by omega) (by omega)
  have HE := hideE e1
  clear e1
  unfold blkV
  go_enter Tryz.func47, Tryz.ntmps47
  go_wp2_with fail
  go_ret
  exact ⟨by rw [← HE.out]; rfl, (Below.refl _ w).alloc (Nat.le_refl _) _⟩
def cmpI (x y : Nat) : Int := if x < y then -1 else if y < x then 1 else 0
set_option maxHeartbeats 1000000 in
theorem cmp_any (x y : Nat) (w : World) : Calls Tryz.prog 76 #[.int .u32 (x : Int), .int .u32 (y : Int)] w fun e w' => e = .returned (.int .i64 (cmpI x y)) ∧ w' = w := by
  by_cases h : x < y
  · have h1 : ((x : Int) < (y : Int)) := by omega
    have e : Hid (cmpI x y = -1) := by show _ = _; unfold cmpI; rw [if_pos h]
    clear h
    go_enter Tryz.func76, Tryz.ntmps76
    go_wp2_with (go_at_call 90; refine (isNaN_u _ _).mono ?_; rintro e w' ⟨rfl, rfl⟩)
    go_ret
    exact ⟨by rw [e.out]; rfl, rfl⟩
  · have h1 : ¬ ((x : Int) < (y : Int)) := by omega
    by_cases h' : y < x
    · have h2 : ((y : Int) < (x : Int)) := by omega
      have e : Hid (cmpI x y = 1) := by show _ = _; unfold cmpI; rw [if_neg h, if_pos h']
      clear h h'
      go_enter Tryz.func76, Tryz.ntmps76
      go_wp2_with (go_at_call 90; refine (isNaN_u _ _).mono ?_; rintro e w' ⟨rfl, rfl⟩)
      go_ret
      exact ⟨by rw [e.out]; rfl, rfl⟩
    · have h2 : ¬ ((y : Int) < (x : Int)) := by omega
      have e : Hid (cmpI x y = 0) := by show _ = _; unfold cmpI; rw [if_neg h, if_neg h']
      clear h h'
      go_enter Tryz.func76, Tryz.ntmps76
      go_wp2_with (go_at_call 90; refine (isNaN_u _ _).mono ?_; rintro e w' ⟨rfl, rfl⟩)
      go_ret
      exact ⟨by rw [e.out]; rfl, rfl⟩
set_option maxHeartbeats 1000000 in
theorem begins1_any (x y a : Nat) (w : World) : Calls Tryz.prog 75 #[blkV (x, y), .int .u32 (a : Int)] w fun e w' => e = .returned (.int .i64 (cmpI x a)) ∧ Below w.heap.size w w' := by
  unfold blkV
  go_enter Tryz.func75, Tryz.ntmps75
  go_wp2_with (go_at_call 76; refine (cmp_any x a _).mono ?_; rintro e w' ⟨rfl, rfl⟩)
  go_ret
  exact ⟨rfl, (Below.refl _ w).alloc (Nat.le_refl _) _⟩
/-- The m-th block is the first that does not begin below a. -/
structure Cut (l : List (Nat × Nat)) (a m : Nat) : Prop where
  le : m ≤ l.length
  low : ∀ (j : Nat) (b : Nat × Nat), l[j]? = some b → j < m → b.1 < a
  high : ∀ (j : Nat) (b : Nat × Nat), l[j]? = some b → m ≤ j → a ≤ b.1
def foundB (l : List (Nat × Nat)) (a m : Nat) : Bool := match l[m]? with
  | some b => decide (b.1 = a)
  | none => false
set_option maxHeartbeats 4000000 in
set_option maxRecDepth 100000 in
theorem search_any (l : List (Nat × Nat)) (v : Value) (a m : Nat) (hc : Cut l a m) (hl : l.length ≤ 1000000) (w : World) (hS : SlB w v l) :
    Calls Tryz.prog 74 #[v, .int .u32 (a : Int), .func (.func 75) #[] #[]] w fun e w' => e = .returned (.tuple #[.int .i64 (m : Int), .bool (foundB l a m)]) ∧ Below w.heap.size w w' := by
  obtain ⟨p, c, rfl⟩ := hS.len
  obtain ⟨n, hn⟩ : ∃ n, l.length = n := ⟨_, rfl⟩
  have hm := hc.le
  rw [hn] at hl hS hm ⊢
  have HS := hideE hS
  have HC := hideE hc
  have HN := hideE hn
  clear hS hc hn
  go_enter Tryz.func74, Tryz.ntmps74
  go_wp2_with fail
  go_loopg [9, 10] n (fun q i j W => ∃ x y : Nat, i = .int .i64 (x : Int) ∧ j = .int .i64 (y : Int) ∧ x ≤ m ∧ m ≤ y ∧ y ≤ n ∧ y - x ≤ q ∧ Below w.heap.size w W)
  case atStart => exact ⟨0, n, rfl, rfl, Nat.zero_le _, hm, Nat.le_refl _, by omega, Below.refl _ _⟩
  case round =>
    obtain ⟨x, y, rfl, rfl, h1, h2, h3, h4, hB⟩ := hrel
    have HB := hideE hB
    have hS := HS.out.below hB
    clear hB
    by_cases hxy : x < y
    · have hxyz : (x : Int) < (y : Int) := by omega
      obtain ⟨q, rfl⟩ : ∃ q, gk = q + 1 := ⟨gk - 1, by omega⟩
      obtain ⟨h, hh⟩ : ∃ h, (x + y) / 2 = h := ⟨_, rfl⟩
      have e0 : IntKind.i64.wrap ((x : Int) + (y : Int)) = ((x + y : Nat) : Int) := by rw [show (x : Int) + (y : Int) = ((x + y : Nat) : Int) by omega]; exact wrE (by omega) (by omega)
      have hhl : x ≤ h ∧ h < y ∧ h < n := by omega
      have e1 : ((x + y : Nat) : Int) / 2 = (h : Int) := by omega
      have e2 : ((x : Int) + (y : Int)) / 2 = (h : Int) := by omega
      have e3 : IntKind.i64.wrap ((h : Int) + 1) = (h : Int) + 1 := wrE (by omega) (by omega)
      have hh0 : (0 : Int) ≤ (h : Int) := by omega
      have hh1 : (h : Int) < (n : Int) := by omega
      obtain ⟨b, hb⟩ : ∃ b, l[h]? = some b := ⟨l[h]'(by rw [HN.out]; omega), List.getElem?_eq_getElem (by rw [HN.out]; omega)⟩
      obtain ⟨g, rfl, b0, b1⟩ := hS.at hb
      obtain ⟨bx, by'⟩ := b
      simp only at b0 b1
      have hlow := fun hlt => HC.out.low h _ hb hlt
      have hhigh := fun hlt => HC.out.high h _ hb hlt
      simp only at hlow hhigh
      clear hb hS
      by_cases hhm : h < m
      · have hc : cmpI bx a = -1 := by unfold cmpI; rw [if_pos (hlow hhm)]
        clear hlow hhigh
        go_wp2_with (go_at_call 75; refine (begins1_any bx by' a _).mono ?_; rw [hc]; rintro e w1 ⟨rfl, hb1⟩)
        go_roundg q
        case measure => omega
        case rel => exact ⟨h + 1, y, by simp, rfl, by omega, h2, h3, by omega, HB.out.trans (hb1.mono HB.out.size)⟩
      · have hc : ¬ (cmpI bx a < 0) := by
          have := hhigh (by omega)
          unfold cmpI
          rw [if_neg (by omega)]
          split <;> omega
        obtain ⟨ci, hci⟩ : ∃ ci, cmpI bx a = ci := ⟨_, rfl⟩
        rw [hci] at hc
        clear hlow hhigh
        go_wp2_with (go_at_call 75; refine (begins1_any bx by' a _).mono ?_; rw [hci]; rintro e w1 ⟨rfl, hb1⟩)
        go_roundg q
        case measure => omega
        case rel => exact ⟨x, h, rfl, rfl, h1, by omega, by omega, by omega, HB.out.trans (hb1.mono HB.out.size)⟩
    · have hxyz : ¬ ((x : Int) < (y : Int)) := by omega
      obtain rfl : x = y := by omega
      obtain rfl : x = m := by omega
      by_cases hxn : x < n
      · have hxn' : (x : Int) < (n : Int) := by omega
        have hx0 : (0 : Int) ≤ (x : Int) := by omega
        obtain ⟨b, hb⟩ : ∃ b, l[x]? = some b := ⟨l[x]'(by rw [HN.out]; omega), List.getElem?_eq_getElem (by rw [HN.out]; omega)⟩
        obtain ⟨g, rfl, b0, b1⟩ := hS.at hb
        obtain ⟨bx, by'⟩ := b
        simp only at b0 b1
        have hf : Hid (foundB l a x = (cmpI bx a == 0)) := by
          show _ = _
          unfold foundB
          rw [hb]
          have := HC.out.high x _ hb (Nat.le_refl _)
          simp only at this ⊢
          unfold cmpI
          rw [if_neg (by omega)]
          by_cases e : bx = a
          · subst e; simp
          · rw [if_pos (by omega)]; simp [e]
        clear hb hS
        go_wp2_with (go_at_call 75; refine (begins1_any bx by' a _).mono ?_; rintro e w1 ⟨rfl, hb1⟩)
        go_ret2
        exact ⟨by rw [hf.out]; rfl, HB.out.trans (hb1.mono HB.out.size)⟩
      · have hxn' : ¬ ((x : Int) < (n : Int)) := by omega
        have hf : Hid (foundB l a x = false) := by
          show _ = _
          unfold foundB
          rw [List.getElem?_eq_none (by rw [HN.out]; omega)]
        clear hS
        go_wp2_with fail
        go_ret2
        exact ⟨by rw [hf.out]; rfl, HB.out⟩
theorem beginsB_any (l : List (Nat × Nat)) (v : Value) (a m : Nat) (hc : Cut l a m) (hl : l.length ≤ 1000000) (w : World) (hS : SlB w v l) :
    Calls Tryz.prog 50 #[v, .int .u32 (a : Int)] w fun e w' => e = .returned (.tuple #[.int .i64 (m : Int), .bool (foundB l a m)]) ∧ Below w.heap.size w w' := by
  have hs := search_any l v a m hc hl w hS
  have HSr := hideE hs
  obtain ⟨p, c, rfl⟩ := hS.len
  clear hs hS hc
  go_enter Tryz.func50, Tryz.ntmps50
  go_wp2_with (go_at_call 74; refine HSr.out.mono ?_; rintro e w1 ⟨rfl, hb1⟩)
  go_ret2
  exact ⟨rfl, hb1⟩
end Go.Proofs.YtcffpmicencfpabGreat
namespace Go.Proofs.YtcffpmicencfpabGreat
open Go.RowKit Go.Lib Go.Sort Go.Maps Ip Bl Pm
set_option linter.unusedSimpArgs false
set_option linter.unusedVariables false

def RiseB (l : List (Nat × Nat)) : Prop := l.Pairwise fun b c => b.1 < c.1
def lowB (l : List (Nat × Nat)) (a : Nat) : Nat := (l.filter fun b => decide (b.1 < a)).length
theorem cut_low {l : List (Nat × Nat)} (h : RiseB l) (a : Nat) : Cut l a (lowB l a) := by
  unfold lowB
  induction l with
  | nil => exact ⟨Nat.le_refl _, fun j b hj => by simp at hj, fun j b hj => by simp at hj⟩
  | cons c l ih =>
    obtain ⟨h1, h2⟩ := List.pairwise_cons.1 h
    have ih := ih h2
    by_cases hc : c.1 < a
    · rw [List.filter_cons_of_pos (by simpa using hc), List.length_cons]
      refine ⟨by have := ih.le; simp; omega, fun j b hj hlt => ?_, fun j b hj hle => ?_⟩
      · cases j with
        | zero => simp at hj; subst hj; exact hc
        | succ j => exact ih.low j b (by simpa using hj) (by omega)
      · cases j with
        | zero => omega
        | succ j => exact ih.high j b (by simpa using hj) (by omega)
    · rw [List.filter_cons_of_neg (by simpa using hc)]
      have hnil : l.filter (fun b => decide (b.1 < a)) = [] := List.filter_eq_nil_iff.2 fun b hb => by have := h1 b hb; simp; omega
      rw [hnil]
      refine ⟨Nat.zero_le _, fun j b hj hlt => by simp at hlt, fun j b hj _ => ?_⟩
      have hb := List.mem_of_getElem? hj
      rcases List.mem_cons.1 hb with rfl | hb
      · omega
      · have := h1 b hb; omega
theorem cut_one {l : List (Nat × Nat)} {a m j : Nat} {b : Nat × Nat} (hc : Cut l a m) (hr : RiseB l) (hj : l[j]? = some b) (he : b.1 = a) : m = j := by
  have h1 : ¬ j < m := fun hlt => by have := hc.low j b hj hlt; omega
  by_cases h2 : m = j
  · exact h2
  · have hlt : m < j := by omega
    obtain ⟨hjl, hje⟩ := List.getElem?_eq_some_iff.1 hj
    have hm : l[m]? = some l[m] := List.getElem?_eq_getElem (by omega)
    have h3 := hc.high m _ hm (Nat.le_refl _)
    have h4 := List.pairwise_iff_getElem.1 hr m j (by omega) hjl hlt
    rw [hje] at h4; omega
def prgN (l : List (Nat × Nat)) (A : List Nat) : List Nat := (A.filter fun a => foundB l a (lowB l a)).map (lowB l)
def nxtL (l : List (Nat × Nat)) (A : List Nat) : List Nat := (List.range l.length).filter fun j => A.contains (l.getD j (0, 0)).1
theorem found_iff {l : List (Nat × Nat)} {a m : Nat} : foundB l a m = true ↔ ∃ b, l[m]? = some b ∧ b.1 = a := by
  unfold foundB
  cases e : l[m]? with
  | none => simp
  | some b => simp
theorem prg_nxt {l : List (Nat × Nat)} (hr : RiseB l) {A : List Nat} (hA : A.Pairwise (· < ·)) : prgN l A = nxtL l A := by
  refine eq_rise ?_ (List.Pairwise.filter _ List.pairwise_lt_range) fun j => ?_
  · unfold prgN
    refine List.pairwise_map.2 ((hA.filter _).imp_of_mem fun {a b} ha hb hlt => ?_)
    obtain ⟨x, hx, e⟩ := found_iff.1 (List.mem_filter.1 ha).2
    have hc := cut_low hr b
    by_cases h : lowB l a < lowB l b
    · exact h
    · have := hc.high _ x hx (by omega); omega
  · unfold prgN nxtL
    rw [List.mem_map, List.mem_filter]
    constructor
    · rintro ⟨a, ha, rfl⟩
      obtain ⟨h1, h2⟩ := List.mem_filter.1 ha
      obtain ⟨x, hx, e⟩ := found_iff.1 h2
      have hlt := (List.getElem?_eq_some_iff.1 hx).1
      exact ⟨List.mem_range.2 hlt, List.contains_iff_mem.2 (by rw [List.getD_eq_getElem?_getD, hx]; show x.1 ∈ A; rw [e]; exact h1)⟩
    · rintro ⟨h1, h2⟩
      have hlt := List.mem_range.1 h1
      have hj : l[j]? = some l[j] := List.getElem?_eq_getElem hlt
      have h3 := List.contains_iff_mem.1 h2
      rw [List.getD_eq_getElem?_getD, hj] at h3
      have h3 : l[j].1 ∈ A := h3
      have hm := cut_one (cut_low hr l[j].1) hr hj rfl
      exact ⟨l[j].1, List.mem_filter.2 ⟨h3, found_iff.2 ⟨_, by rw [hm]; exact hj, rfl⟩⟩, hm⟩
theorem aft_pair (x : Ins) (a : Nat) : (aftI x a).Pairwise (· < ·) := by
  have h2 : (aftI x a).length ≤ 2 := aft_two _ _ _ _ _ _
  match e : aftI x a, h2 with
  | [], _ => exact List.Pairwise.nil
  | [b], _ => exact List.pairwise_singleton _ _
  | [b, c], _ =>
    have := aft_rise (show aft x.op x.rd x.rs1 x.rs2 x.imm a = [b, c] from e)
    simp [this]
def nextV (i : Img) (l : List (Nat × Nat)) (k : Int) : List Nat × Bool :=
  if 0 ≤ k ∧ k < l.length ∧ errA i (lastA (l.getD k.toNat (0, 0))) = 0 then
    (nxtL l (aftI (insA i (lastA (l.getD k.toNat (0, 0)))) (lastA (l.getD k.toNat (0, 0)))), decide ((insA i (lastA (l.getD k.toNat (0, 0)))).op = 3))
  else ([], false)
theorem prgN_succ (l : List (Nat × Nat)) (A : List Nat) (k a : Nat) (h : A[k]? = some a) : prgN l (A.take (k + 1)) = if foundB l a (lowB l a) = true then prgN l (A.take k) ++ [lowB l a] else prgN l (A.take k) := by
  rw [List.take_add_one, h]
  unfold prgN
  rw [List.filter_append, List.map_append]
  by_cases hf : foundB l a (lowB l a) = true
  · rw [if_pos hf]
    simp only [Option.toList_some, List.filter_cons, List.filter_nil, hf, if_true, List.map_cons, List.map_nil]
  · have hf' : foundB l a (lowB l a) = false := by simpa using hf
    rw [if_neg hf]
    simp only [Option.toList_some, List.filter_cons, List.filter_nil, hf', Bool.false_eq_true, if_false, List.map_nil, List.append_nil]
theorem prgN_len (l : List (Nat × Nat)) (A : List Nat) : (prgN l A).length ≤ A.length := by
  unfold prgN; rw [List.length_map]; exact List.length_filter_le _ _
/-- The blocks that Next is asked of. -/
structure FitB (l : List (Nat × Nat)) : Prop where
  rise : RiseB l
  at_ : ∀ b ∈ l, b.1 < 4294967296
  pos : ∀ b ∈ l, 1 ≤ b.2 ∧ b.2 ≤ 4294967296
  len : l.length ≤ 1000000
def numV8 (n : Nat) : Value := .int .i64 (n : Int)
theorem infoI : (Tryz.prog.info? 3).map (fun i => (i.zero, i.size, i.bytes)) = some (some (.int .i64 0), 1, 8) := by kernel_rfl
end Go.Proofs.YtcffpmicencfpabGreat
namespace Go.Proofs.YtcffpmicencfpabGreat
open Go.RowKit Go.Lib Go.Sort Go.Maps Ip Bl Pm
set_option linter.unusedSimpArgs false
set_option linter.unusedVariables false

/-- While Next is at work. -/
structure Nx (w : World) (gx : Nat) (X : Ins) (va : Value) (A : List Nat) (vo : Value) (out : List Nat) (W : World) : Prop where
  xb : W.heap[gx]? = some (.cells (insC X) 38 (0, 0))
  ar : W.ownsRow w.heap.size 22 1 va A.length (A.map wordV)
  ow : W.ownsRow w.heap.size 3 1 vo out.length (out.map numV8)
  low : Below w.heap.size w W
variable {w : World} {gx : Nat} {X : Ins} {va vo : Value} {A out : List Nat} {W W' : World}
theorem Nx.ext (h : Nx w gx X va A vo out W) (hb : Below W.heap.size W W') : Nx w gx X va A vo out W' :=
  ⟨keptN hb h.xb, h.ar.kept (grown_of_below hb) (by cases va.ownBlock <;> simp), h.ow.kept (grown_of_below hb) (by cases vo.ownBlock <;> simp), h.low.trans (hb.mono h.low.size)⟩
theorem Nx.app (h : Nx w gx X va A vo out W) {o : Obj} {vo' : Value} {m : Nat} (hown : W'.ownsRow w.heap.size 3 1 vo' (out.length + 1) (out.map numV8 ++ [.int .i64 (m : Int)])) (hg : (W.alloc o).grownBy W' vo.ownBlock) : Nx w gx X va A vo' (out ++ [m]) W' := by
  have ha := h.ext ((Below.refl _ W).alloc (Nat.le_refl _) o)
  refine ⟨(hg.block gx (Array.getElem?_eq_some_iff.1 ha.xb).1 (row_box ha.ow ha.xb (by decide))).trans ha.xb, ha.ar.kept hg (rows_apart ha.ar ha.ow (by decide)), by simpa [numV8] using hown, ha.low.grown hg (by have := h.low.size; rw [World.size_alloc]; omega) (fun k e => (h.ow.lt k e).1)⟩
theorem own_low2 {W : World} {B b : Nat} {t : TypeId} {k : Nat} {v : Value} {n : Nat} {xs : List Value} (h : W.ownsRow B t k v n xs) (hb : b ≤ B) : W.ownsRow b t k v n xs := by
  refine ⟨h.1, ?_⟩
  rcases h.2 with h0 | ⟨g, cap, cur, h1, h2, h3⟩
  · exact .inl h0
  · exact .inr ⟨g, cap, cur, h1, by omega, h3⟩
theorem nextV_no {i : Img} {l : List (Nat × Nat)} {k : Int} (h : ¬ (0 ≤ k ∧ k < l.length ∧ errA i (lastA (l.getD k.toNat (0, 0))) = 0)) : nextV i l k = ([], false) := by unfold nextV; rw [if_neg h]
set_option maxHeartbeats 8000000 in
set_option maxRecDepth 100000 in
theorem next_any (i : Img) (v vl : Value) (l : List (Nat × Nat)) (k : Int) (hk0 : -9223372036854775808 ≤ k) (hk1 : k ≤ 9223372036854775807) (hl : FitB l) (hi : i.ok) (w : World) (hS : SlW w v i.words) (hB : SlB w vl l) :
    Calls Tryz.prog 28 #[imgV i v, vl, .int .i64 k] w fun e W' => ∃ u, e = .returned (.tuple #[u, .bool (nextV i l k).2]) ∧ W'.ownsRow w.heap.size 3 1 u (nextV i l k).1.length ((nextV i l k).1.map numV8) ∧ Below w.heap.size w W' := by
  obtain ⟨i0, hii, hz0, hz1, hz2⟩ := info_parts infoI
  obtain ⟨p0, q0, rfl, _⟩ := hS.len
  obtain ⟨pb, qb, rfl⟩ := hB.len
  obtain ⟨n, hn⟩ : ∃ n, l.length = n := ⟨_, rfl⟩
  have HN := hideE hn
  have hnl : n ≤ 1000000 := by rw [← hn]; exact hl.len
  rw [hn] at hB ⊢
  clear hn
  have b0 : ∀ o, Below w.heap.size w (w.alloc o) := fun o => (Below.refl _ w).alloc (Nat.le_refl _) _
  have HB0 := hideE b0
  have HFit := hideE hl
  clear hl
  simp only [imgV]
  by_cases hneg : k < 0
  · have hv := nextV_no (i := i) (l := l) (k := k) (fun h => by omega)
    rw [hv]
    clear hS hB hv b0
    go_enter Tryz.func28, Tryz.ntmps28
    go_wp2_with fail
    go_ret2
    exact ⟨_, rfl, World.ownsRow_nil _ _ _ _, HB0.out _⟩
  · have hk0' : 0 ≤ k := by omega
    obtain ⟨kk, rfl⟩ := Int.eq_ofNat_of_zero_le hk0'
    have hkn : ¬ ((kk : Int) < 0) := by omega
    by_cases hge : n ≤ kk
    · have hge' : (n : Int) ≤ (kk : Int) := by omega
      have hv := nextV_no (i := i) (l := l) (k := (kk : Int)) (fun h => by have := h.2.1; rw [HN.out] at this; omega)
      rw [hv]
      clear hS hB hv b0 hge
      go_enter Tryz.func28, Tryz.ntmps28
      go_wp2_with fail
      go_ret2
      exact ⟨_, rfl, World.ownsRow_nil _ _ _ _, HB0.out _⟩
    · have hge' : ¬ ((n : Int) ≤ (kk : Int)) := by omega
      have hlt' : (kk : Int) < (n : Int) := by omega
      have hkz : (0 : Int) ≤ (kk : Int) := by omega
      obtain ⟨b, hb⟩ : ∃ b, l[kk]? = some b := ⟨l[kk]'(by rw [HN.out]; omega), List.getElem?_eq_getElem (by rw [HN.out]; omega)⟩
      have hbm := List.mem_of_getElem? hb
      have hbp := HFit.out.pos b hbm
      have hba := HFit.out.at_ b hbm
      have hgd : l.getD (kk : Int).toNat (0, 0) = b := by rw [Int.toNat_natCast, List.getD_eq_getElem?_getD, hb]; rfl
      have hbx := heap_alloc_new w (.cells (imgC i (.slice p0 i.words.length q0)) 26)
      obtain ⟨g, rfl, e0, e1⟩ := (hB.below (b0 (.cells (imgC i (.slice p0 i.words.length q0)) 26))).at hb
      obtain ⟨x, y⟩ := b
      obtain ⟨a, ha⟩ : ∃ a, lastA (x, y) = a := ⟨_, rfl⟩
      have hal : a < 4294967296 := by rw [← ha]; unfold lastA; omega
      have HLast := hideE (fun W => ha ▸ last_any x y hba hbp.1 hbp.2 W)
      obtain ⟨X, hX⟩ : ∃ X, insA i a = X := ⟨_, rfl⟩
      obtain ⟨ER, hER⟩ : ∃ ER, errA i a = ER := ⟨_, rfl⟩
      have HST := hideE (fun W hW => stands_at i (.slice p0 i.words.length q0) a hal hi X hX ER hER W hW)
      have HSW := hideE hS
      have HSB := hideE hB
      have HV : Hid (nextV i l (kk : Int) = if ER = 0 then (nxtL l (aftI X a), decide (X.op = 3)) else ([], false)) := by
        show _ = _
        unfold nextV
        rw [hgd, ha, hX, hER, HN.out]
        by_cases h : ER = 0
        · rw [if_pos ⟨hkz, hlt', h⟩, if_pos h]
        · rw [if_neg (fun c => h c.2.2), if_neg h]
      clear hS hB hb hbm hbp hgd hX hER ha b0
      simp only at e0 e1 HLast
      unfold blkV at HLast
      unfold imgC at e0 e1
      go_enter Tryz.func28, Tryz.ntmps28
      go_upto_region 4 with (go_at_call 47; refine (HLast.out _).mono ?_; rintro e wa ⟨rfl, hba1⟩)
      have hib := keptN hba1 hbx
      have hlow := (HB0.out _).trans (hba1.mono (by simp))
      have HLow := hideE hlow
      have HSTa := hideE (HST.out wa (HSW.out.below hlow))
      clear hbx hba1 hlow HST HLast e0 e1
      go_upto_region 5 with (first
        | (refine wpList_load_row rfl 26 _ rfl w.heap.size rfl _ _ _ _ hib Tryz.underlying26 rfl (by kernel_rfl) ?_)
        | (go_at_call 48; refine HSTa.out.mono ?_; rintro e wh ⟨rfl, hbh⟩)
        | (refine wpList_store_row rfl 38 _ _ rfl wh.heap.size _ rfl rfl _ _ (heap_alloc_new wh _) (by kernel_rfl) rfl (by kernel_rfl) ?_))
      have hbw := HLow.out.trans (hbh.mono HLow.out.size)
      have hz := hbw.size
      have hgw := setRow_heap _ _ _ (insC X) _ _ (heap_alloc_new wh (.cells #[.int .i64 0, .int .i64 0, .int .i64 0, .int .i64 0, .int .i64 0] 38))
      have hlw := below_setRowE ((hbw.alloc hz (.cells #[.int .i64 0, .int .i64 0, .int .i64 0, .int .i64 0, .int .i64 0] 38))) hz (insC X)
      refine gen_world (fun W => W.heap[wh.heap.size]? = some (.cells (insC X) 38 (0, 0)) ∧ Below w.heap.size w W) ⟨hgw, hlw⟩ ?_
      clear hgw hlw hz hbw hbh HSTa hib HLow
      generalize wh.heap.size = gx
      rintro wj ⟨hxb, hlj⟩
      by_cases h0 : ER = 0
      · subst h0
        have HLJ := hideE hlj
        have HAF := hideE (after_at X a wj)
        clear hlj
        go_upto_region 9 with (first
          | (refine wpList_load_row rfl 38 _ rfl gx rfl _ _ _ _ hxb Tryz.underlying38 rfl (by kernel_rfl) ?_)
          | (go_at_call 49; refine HAF.out.mono ?_; rintro e wo ⟨va, rfl, hA, hbA⟩; obtain ⟨pa, ca, rfl⟩ := own_slice' hA))
        obtain ⟨A, hAA⟩ : ∃ A, aftI X a = A := ⟨_, rfl⟩
        have hA2 : A.length ≤ 2 := by rw [← hAA]; exact aft_two _ _ _ _ _ _
        have hAp : A.Pairwise (· < ·) := by rw [← hAA]; exact aft_pair X a
        rw [hAA] at hA HV ⊢
        have hnx : Nx w gx X (.slice pa A.length ca) A (.slice none 0 0) [] wo := ⟨keptN hbA hxb, own_low2 hA (Nat.le_succ_of_le HLJ.out.size), World.ownsRow_nil _ _ _ _, HLJ.out.trans (hbA.mono HLJ.out.size)⟩
        have HAp := hideE hAp
        have HV1 : Hid (nextV i l (kk : Int) = (nxtL l A, decide (X.op = 3))) := by show _ = _; rw [HV.out, if_pos trivial]
        clear hA hbA HAF HLJ hxb hAA hAp
        obtain ⟨nA, hnA⟩ : ∃ nA, A.length = nA := ⟨_, rfl⟩
        have HNA := hideE hnA
        rw [hnA] at hnx hA2 ⊢
        clear hnA
        go_loopg [11, 41] nA (fun q vo j W => ∃ (t : Nat), t + q = nA ∧ j = .int .i64 (t : Int) ∧ Nx w gx X (.slice pa nA ca) A vo (prgN l (A.take t)) W)
        case atStart => exact ⟨0, by omega, rfl, hnx⟩
        case round =>
          clear hnx
          obtain ⟨t, htq, rfl, h1⟩ := hrel
          cases gk with
          | zero =>
            obtain rfl : t = nA := by omega
            have hk : ¬ ((t : Int) < (t : Int)) := by omega
            have hx1 := h1.xb
            obtain ⟨c0, c1, c2, c3, c4⟩ := five hx1
            have hfin : Hid (prgN l (A.take t) = nxtL l A) := by
              show _ = _
              rw [List.take_of_length_le (by rw [HNA.out]; exact Nat.le_refl _)]
              exact prg_nxt HFit.out.rise HAp.out
            have how := h1.ow
            rw [hfin.out] at how
            have hlow := h1.low
            clear h1 hx1 c1 c2 c3 c4
            go_wp2_with fail
            go_quiet (fail)
            go_wp2_with fail
            go_ret2
            rw [HV1.out]
            exact ⟨_, by rw [← beqD]; rfl, how, hlow.trans (drew_low _ _ _)⟩
          | succ q =>
            have hk : ((t : Int) < (nA : Int)) := by omega
            have hkk0 : (0 : Int) ≤ (t : Int) := by omega
            have hwk : IntKind.i64.wrap ((t : Int) + 1) = (t : Int) + 1 := wrE (by omega) (by omega)
            obtain ⟨z, hz⟩ : ∃ z, A[t]? = some z := ⟨A[t]'(by rw [HNA.out]; omega), List.getElem?_eq_getElem (by rw [HNA.out]; omega)⟩
            have hAr := h1.ar
            rw [HNA.out] at hAr
            obtain ⟨ga, rfl⟩ := own_some hAr (by omega)
            have a3 : wr.cell? ⟨ga, t, none⟩ = some (.int .u32 (z : Int)) := by
              rw [hAr.cellAt t (by omega), List.getElem?_map, hz]; rfl
            have hcut := cut_low HFit.out.rise z
            have hlB := HSB.out.below h1.low
            have HBg := hideE (fun W hW => beginsB_any l (.slice (some ⟨g, 0, none⟩) n qb) z (lowB l z) hcut HFit.out.len W hW)
            have HBw := hideE (HBg.out wr hlB)
            have hps := prgN_succ l A t z hz
            obtain ⟨m, hm⟩ : ∃ m, lowB l z = m := ⟨_, rfl⟩
            have hml : m ≤ 1000000 := by rw [← hm]; exact Nat.le_trans hcut.le HFit.out.len
            obtain ⟨fb, hfb⟩ : ∃ fb, foundB l z m = fb := ⟨_, rfl⟩
            rw [hm] at hps HBw
            rw [hfb] at hps HBw
            have HPS := hideE hps
            have hpl : (prgN l (A.take t)).length ≤ 2 := Nat.le_trans (prgN_len l _) (by rw [List.length_take]; omega)
            obtain ⟨P, hP⟩ : ∃ P, prgN l (A.take t) = P := ⟨_, rfl⟩
            rw [hP] at h1 hpl
            have HP := hideE hP
            have how := h1.ow
            have hsz := h1.low.size
            obtain ⟨pp, cp, rfl⟩ := own_slice' how
            have H1 := hideE h1
            clear h1 hAr hz hcut hlB HBg hps hm hfb hP
            cases fb with
            | false =>
              clear how
              go_wp2_with (go_at_call 50; refine HBw.out.mono ?_; rintro e w5 ⟨rfl, hb5⟩)
              go_roundg q
              case measure => omega
              case rel =>
                refine ⟨t + 1, by omega, by simp, ?_⟩
                rw [HPS.out, HP.out]
                exact H1.out.ext hb5
            | true =>
              go_upto_region 13 with (go_at_call 50; refine HBw.out.mono ?_; rintro e w5 ⟨rfl, hb5⟩)
              have H5 := hideE (H1.out.ext hb5)
              have how5 := H5.out.ow
              have hsz5 := H5.out.low.size
              clear hb5 H1 how a3
              go_wp2_with (at_builtin; refine wpList_append_own _ rfl _ _ 48 rfl w.heap.size 3 i0 (.int .i64 0) 1 8 Tryz.underlying48 hii hz0 hz1 hz2 rfl (by decide) _ _ _ rfl (how5.alloc _) ⟨_, 0, none⟩ 1 1 [.int .i64 (m : Int)] rfl rfl (cell_one_new _ _ _) (by simp [Value.oneCell']) (by unfold maxLen; omega) (by omega) (by simp; omega) ?_; intro vo' w6 hown' hgrow _)
              go_roundg q
              case measure => omega
              case rel =>
                refine ⟨t + 1, by omega, by simp, ?_⟩
                rw [HPS.out, HP.out]
                exact H5.out.app hown' hgrow
      · have hne : ((ER : Int) != 0) = true := bne_iff_ne.2 (by omega)
        have HV0 : Hid (nextV i l (kk : Int) = ([], false)) := by show _ = _; rw [HV.out, if_neg h0]
        clear h0 hxb HV
        go_wp2_with fail
        go_ret2
        rw [HV0.out]
        exact ⟨_, rfl, World.ownsRow_nil _ _ _ _, hlj⟩
end Go.Proofs.YtcffpmicencfpabGreat
