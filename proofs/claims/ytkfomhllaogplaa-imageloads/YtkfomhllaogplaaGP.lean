/-
  Contract of the document's layer 7: Load.
-/
import Derived.Test.YtkfomhllaogplaaFA
import Derived.Test.YtkfomhllaogplaaGK
import Derived.Test.YtkfomhllaogplaaZKj
namespace Go.Proofs.Ytkfomhllaogplaa
open Go.RowKit El Go.Lib
open Classical
set_option linter.unusedSimpArgs false
set_option linter.unusedVariables false

structure LdS (w : World) (E F : Int) (v : Value) (l : List Seg) (B : Nat) (W : World) : Prop where
  box : W.heap[w.heap.size]? = some (.cells #[.int .u32 E, .int .u32 F, v] 25 (0, 0))
  s0 : SlS w v l
  low : Below w.heap.size w W
  base : w.heap.size < B
theorem LdS.s {w W : World} {E F : Int} {v : Value} {l : List Seg} {B : Nat} (h : LdS w E F v l B W) : SlS W v l := h.s0.below h.low
theorem LdS.below {w W W' : World} {E F : Int} {v : Value} {l : List Seg} {B : Nat} (h : LdS w E F v l B W) (hb : Below W.heap.size W W') : LdS w E F v l B W' := ⟨keptN hb h.box, h.s0, h.low.trans (hb.mono h.low.size), h.base⟩
theorem LdS.drew {w W : World} {E F : Int} {v : Value} {l : List Seg} {B : Nat} (h : LdS w E F v l B W) : LdS w E F v l B W.drew := h.below (Below.refl _ W).drew
theorem rload_bad (x : Prg) (v : Value) (hl : x.segs.length ≤ 1000) (hc : chk x.segs ≠ 0) (w : World) (hS : SlS w v x.segs) :
    Calls Try.prog 20 #[prgV x v] w fun e w' => e = .returned (.tuple #[.pointer none, .int .i64 (chk x.segs)]) ∧ Below w.heap.size w w' := by
  obtain ⟨p0, c, rfl, _⟩ := hS.len
  obtain ⟨E, hE⟩ : ∃ E : Int, (x.entry.toNat : Int) = E := ⟨_, rfl⟩
  obtain ⟨F, hF⟩ : ∃ F : Int, (x.flags.toNat : Int) = F := ⟨_, rfl⟩
  have hb0 : Below w.heap.size w (w.alloc (.cells #[.int .u32 E, .int .u32 F, .slice p0 x.segs.length c] 25)) := (Below.refl _ w).alloc (Nat.le_refl _) _
  have HCk := hideE (rcheck_any x _ hl _ (hS.below hb0))
  simp only [prgV] at HCk ⊢
  rw [hE, hF] at HCk ⊢
  have hq : (chk x.segs != 0) = true := bne_iff_ne.2 hc
  clear hS hl hE hF hc
  generalize hk : chk x.segs = k at *
  clear hk
  go_enter Try.func20, Try.ntmps20
  go_wp2_with fail
  refine HCk.out.mono ?_
  rintro e w1 ⟨rfl, hb1⟩
  have HB := hideE (hb0.trans (hb1.mono (by simp)))
  clear HCk hb1 hb0
  go_wp2_with fail
  go_ret2
  exact ⟨rfl, HB.out⟩
theorem LdS.put {w W W' : World} {E F : Int} {v : Value} {l : List Seg} {B kb : Nat} (h : LdS w E F v l B W) (hk : B ≤ kb) (hg : W.grownBy W' (some kb)) : LdS w E F v l B W' := by
  have hb := h.base
  have hlow : Below w.heap.size w W' := h.low.grown hg h.low.size (fun j e => by injection e with e; omega)
  have hlt := (Array.getElem?_eq_some_iff.1 h.box).1
  exact ⟨by rw [hg.block _ hlt (by simp; omega)]; exact h.box, h.s0, hlow, hb⟩
set_option maxRecDepth 100000 in
set_option maxHeartbeats 8000000 in
theorem rload_ok (x : Prg) (v : Value) (hl : x.segs.length ≤ 1000) (hd : ∀ g ∈ x.segs, g.data.length ≤ 65536) (hc : chk x.segs = 0) (w : World) (hS : SlS w v x.segs) :
    Calls Try.prog 20 #[prgV x v] w fun e w' => ∃ kb B : Nat, e = .returned (.tuple #[.pointer (some ⟨kb, 0, none⟩), .int .i64 0]) ∧ RefAt w' B kb (memOf x.segs) ∧ w.heap.size ≤ B ∧ Below w.heap.size w w' := by
  obtain ⟨hl16, hmay, _⟩ := chk_zero hc
  obtain ⟨p0, c, rfl, _⟩ := hS.len
  obtain ⟨E, hE⟩ : ∃ E : Int, (x.entry.toNat : Int) = E := ⟨_, rfl⟩
  obtain ⟨F, hF⟩ : ∃ F : Int, (x.flags.toNat : Int) = F := ⟨_, rfl⟩
  have hb0 : Below w.heap.size w (w.alloc (.cells #[.int .u32 E, .int .u32 F, .slice p0 x.segs.length c] 25)) := (Below.refl _ w).alloc (Nat.le_refl _) _
  have hbx := heap_alloc_new w (.cells #[.int .u32 E, .int .u32 F, .slice p0 x.segs.length c] 25)
  have HCk := hideE (rcheck_any x _ hl _ (hS.below hb0))
  have HS := hideE hS
  have HD := hideE hd
  simp only [prgV] at HCk ⊢
  rw [hE, hF, hc] at HCk
  rw [hE, hF]
  obtain ⟨l, hL⟩ : ∃ l, x.segs = l := ⟨_, rfl⟩
  rw [hL] at HCk HS HD hl16 hb0 hbx ⊢
  clear hS hl hE hF hc hmay hd hL
  go_enter Try.func20, Try.ntmps20
  go_wp2_with fail
  refine HCk.out.mono ?_
  rintro e w1 ⟨rfl, hb1⟩
  have hbx1 := keptN hb1 hbx
  have HB := hideE (hb0.trans (hb1.mono (by simp)))
  clear HCk hb1 hb0 hbx
  go_wp2_with fail
  refine (rnew_any w1).mono ?_
  rintro e w2 ⟨kb, rfl, hm2, _, hb2⟩
  have hlt1 : w.heap.size < w1.heap.size := (Array.getElem?_eq_some_iff.1 hbx1).1
  have hlow2 : Below w.heap.size w w2 := HB.out.trans (hb2.mono HB.out.size)
  have hL2 : LdS w E F (.slice p0 l.length c) l w1.heap.size w2 := ⟨keptN hb2 hbx1, HS.out, hlow2, hlt1⟩
  have HB1 := hideE hb2.size
  generalize w1.heap.size = B at *
  have HL2 := hideE hL2
  have HM := hideE hm2
  clear hm2 hb2 hbx1 HB hL2 hlow2
  go_wp2_with fail
  go_loopg [6] l.length (fun q i wr => ∃ k : Nat, k + q = l.length ∧ i = .int .i64 (k : Int) ∧ RefAt wr B kb (loadK l k) ∧ LdS w E F (.slice p0 l.length c) l B wr)
  case atStart => exact ⟨0, by omega, rfl, HM.out, HL2.out⟩
  case round =>
    clear HM HL2
    obtain ⟨k, hkq, rfl, hm, hz⟩ := hrel
    obtain ⟨⟨a0, a1, a2⟩, _⟩ := three hz.box
    cases gk with
    | zero =>
      obtain rfl : k = l.length := by omega
      have hk : ¬ ((l.length : Int) < (l.length : Int)) := by omega
      have HM := hideE hm
      have HZ := hideE hz
      clear hm hz
      go_wp2_with fail
      go_ret2
      first | exact ⟨_, _, rfl, HM.out, by omega, HZ.out.low⟩ | exact ⟨_, rfl, _, HM.out, by omega, HZ.out.low⟩
    | succ q =>
      have hk : ((k : Int) < (l.length : Int)) := by omega
      have hk0 : (0 : Int) ≤ (k : Int) := by omega
      have hwk : IntKind.i64.wrap ((k : Int) + 1) = (k : Int) + 1 := wrE (by omega) (by omega)
      obtain ⟨y, hy⟩ : ∃ y, l[k]? = some y := ⟨l[k]'(by omega), List.getElem?_eq_getElem (by omega)⟩
      have hpos : 0 < l.length := by omega
      obtain ⟨gb, o, rfl⟩ := sls_some hz.s hpos
      have hdy := HD.out y (List.mem_of_getElem? hy)
      have HP := hideE (loadK_at hy)
      have HY := hideE hy
      have ha := y.addr.isLt
      have HR := hideE hm
      have hBz : B ≤ wr.heap.size := by have := hm.base; have := hm.lt; omega
      clear hy hm
      go_wp2_with fail
      clear a0 a1 a2
      refine wp_region_noPanic ?_
      refine wp_region_held_drew (S := LdS w E F (.slice (some ⟨gb, o, none⟩) l.length c) l B) (by kernel_rfl) hz.drew (fun h0 => ?_)
      refine wpAnyH_takeAt (i := 0) (v := ?_) rfl (by kernel_rfl) (by kernel_rfl) (by kernel_rfl) (fun _ _ _ h => h) (Or.inl ⟨by rfl, ?_⟩) h0 ?_
      rotate_left 1
      · intro w' hS; have y2 := (three hS.box).1.2.2; obtain ⟨z0, z1, z2, z3⟩ := SlS.at (slsCells hS.s hpos).1 _ _ HY.out; clear hS
        go_simp <;> with_reducible rfl
      try simp only [Act.put, List.setIfInBounds_toArray, List.set_cons_zero, List.set_cons_succ]
      refine wpAnyH_takeAt (i := 1) (v := ?_) rfl (by kernel_rfl) (by kernel_rfl) (by kernel_rfl) (fun _ _ _ h => h) (Or.inl ⟨by rfl, ?_⟩) h0 ?_
      rotate_left 1
      · intro w' hS; have y2 := (three hS.box).1.2.2; obtain ⟨z0, z1, z2, z3⟩ := SlS.at (slsCells hS.s hpos).1 _ _ HY.out; clear hS
        go_simp <;> with_reducible rfl
      try simp only [Act.put, List.setIfInBounds_toArray, List.set_cons_zero, List.set_cons_succ]
      refine wpAnyH_takeAt (i := 2) (v := ?_) rfl (by kernel_rfl) (by kernel_rfl) (by kernel_rfl) (fun _ _ _ h => h) (Or.inl ⟨by rfl, ?_⟩) h0 ?_
      rotate_left 1
      · intro w' hS; have y2 := (three hS.box).1.2.2; obtain ⟨z0, z1, z2, z3⟩ := SlS.at (slsCells hS.s hpos).1 _ _ HY.out; clear hS
        go_simp <;> with_reducible rfl
      try simp only [Act.put, List.setIfInBounds_toArray, List.set_cons_zero, List.set_cons_succ]
      refine wpAnyH_takeAt (i := 3) (v := ?_) rfl (by kernel_rfl) (by kernel_rfl) (by kernel_rfl) (fun _ _ _ h => h) (Or.inl ⟨by rfl, ?_⟩) h0 ?_
      rotate_left 1
      · intro w' hS; have y2 := (three hS.box).1.2.2; obtain ⟨z0, z1, z2, z3⟩ := SlS.at (slsCells hS.s hpos).1 _ _ HY.out; clear hS
        go_simp <;> with_reducible rfl
      try simp only [Act.put, List.setIfInBounds_toArray, List.set_cons_zero, List.set_cons_succ]
      refine wpAnyH_takeAt (i := 4) (v := ?_) rfl (by kernel_rfl) (by kernel_rfl) (by kernel_rfl) (fun _ _ _ h => h) (Or.inl ⟨by rfl, ?_⟩) h0 ?_
      rotate_left 1
      · intro w' hS; have y2 := (three hS.box).1.2.2; obtain ⟨z0, z1, z2, z3⟩ := SlS.at (slsCells hS.s hpos).1 _ _ HY.out; clear hS
        go_simp <;> with_reducible rfl
      try simp only [Act.put, List.setIfInBounds_toArray, List.set_cons_zero, List.set_cons_succ]
      refine wpAnyH_takeAt (i := 5) (v := ?_) rfl (by kernel_rfl) (by kernel_rfl) (by kernel_rfl) (fun _ _ _ h => h) (Or.inl ⟨by rfl, ?_⟩) h0 ?_
      rotate_left 1
      · intro w' hS; have y2 := (three hS.box).1.2.2; obtain ⟨z0, z1, z2, z3⟩ := SlS.at (slsCells hS.s hpos).1 _ _ HY.out; clear hS
        go_simp <;> with_reducible rfl
      try simp only [Act.put, List.setIfInBounds_toArray, List.set_cons_zero, List.set_cons_succ]
      refine wpAnyH_takeAt (i := 6) (v := ?_) rfl (by kernel_rfl) (by kernel_rfl) (by kernel_rfl) (fun _ _ _ h => h) (Or.inl ⟨by rfl, ?_⟩) h0 ?_
      rotate_left 1
      · intro w' hS; have y2 := (three hS.box).1.2.2; obtain ⟨z0, z1, z2, z3⟩ := SlS.at (slsCells hS.s hpos).1 _ _ HY.out; clear hS
        go_simp <;> with_reducible rfl
      try simp only [Act.put, List.setIfInBounds_toArray, List.set_cons_zero, List.set_cons_succ]
      refine wpAnyH_takeAt (i := 7) (v := ?_) rfl (by kernel_rfl) (by kernel_rfl) (by kernel_rfl) (fun _ _ _ h => h) (Or.inl ⟨by rfl, ?_⟩) h0 ?_
      rotate_left 1
      · intro w' hS; have y2 := (three hS.box).1.2.2; obtain ⟨z0, z1, z2, z3⟩ := SlS.at (slsCells hS.s hpos).1 _ _ HY.out; clear hS
        go_simp <;> with_reducible rfl
      try simp only [Act.put, List.setIfInBounds_toArray, List.set_cons_zero, List.set_cons_succ]
      refine wpAnyH_takeAt (i := 8) (v := ?_) rfl (by kernel_rfl) (by kernel_rfl) (by kernel_rfl) (fun _ _ _ h => h) (Or.inl ⟨by rfl, ?_⟩) h0 ?_
      rotate_left 1
      · intro w' hS; have y2 := (three hS.box).1.2.2; obtain ⟨z0, z1, z2, z3⟩ := SlS.at (slsCells hS.s hpos).1 _ _ HY.out; clear hS
        go_simp <;> with_reducible rfl
      try simp only [Act.put, List.setIfInBounds_toArray, List.set_cons_zero, List.set_cons_succ]
      refine wpAnyH_takeAt (i := 9) (v := ?_) rfl (by kernel_rfl) (by kernel_rfl) (by kernel_rfl) (fun _ _ _ h => h) (Or.inl ⟨by rfl, ?_⟩) h0 ?_
      rotate_left 1
      · intro w' hS; have y2 := (three hS.box).1.2.2; obtain ⟨z0, z1, z2, z3⟩ := SlS.at (slsCells hS.s hpos).1 _ _ HY.out; clear hS
        go_simp <;> with_reducible rfl
      try simp only [Act.put, List.setIfInBounds_toArray, List.set_cons_zero, List.set_cons_succ]
      refine wpAnyH_takeAt (i := 10) (v := ?_) rfl (by kernel_rfl) (by kernel_rfl) (by kernel_rfl) (fun _ _ _ h => h) (Or.inl ⟨by rfl, ?_⟩) h0 ?_
      rotate_left 1
      · intro w' hS; have y2 := (three hS.box).1.2.2; obtain ⟨z0, z1, z2, z3⟩ := SlS.at (slsCells hS.s hpos).1 _ _ HY.out; clear hS
        go_simp <;> with_reducible rfl
      try simp only [Act.put, List.setIfInBounds_toArray, List.set_cons_zero, List.set_cons_succ]
      refine wpAnyH_takeAt (i := 11) (v := ?_) rfl (by kernel_rfl) (by kernel_rfl) (by kernel_rfl) (fun _ _ _ h => h) (Or.inl ⟨by rfl, ?_⟩) h0 ?_
      rotate_left 1
      · intro w' hS; have y2 := (three hS.box).1.2.2; obtain ⟨z0, z1, z2, z3⟩ := SlS.at (slsCells hS.s hpos).1 _ _ HY.out; clear hS
        go_simp <;> with_reducible rfl
      try simp only [Act.put, List.setIfInBounds_toArray, List.set_cons_zero, List.set_cons_succ]
      refine wpAnyH_takeAt (i := 12) (v := ?_) rfl (by kernel_rfl) (by kernel_rfl) (by kernel_rfl) (fun _ _ _ h => h) (Or.inl ⟨by rfl, ?_⟩) h0 ?_
      rotate_left 1
      · intro w' hS; have y2 := (three hS.box).1.2.2; obtain ⟨z0, z1, z2, z3⟩ := SlS.at (slsCells hS.s hpos).1 _ _ HY.out; clear hS
        go_simp <;> with_reducible rfl
      try simp only [Act.put, List.setIfInBounds_toArray, List.set_cons_zero, List.set_cons_succ]
      refine wpAnyH_ready (rs := [13]) (by kernel_rfl) (by simp) (allReady_at rfl (fun K' hK => ?_))
      go_simp
      refine (rmput_any _ (HR.out.below (Below.refl _ _).drew) (by omega) (by show y.data.length ≤ _; omega) (by simpa using hBz)).mono ?_
      rintro e w3 ⟨rfl, hm3, hg3⟩
      dsimp only
      have h1 : LdS w E F (.slice (some ⟨gb, o, none⟩) l.length c) l B w3 := h0.put HR.out.base hg3
      refine hK.out _ _ h1 (fun _ => ?_)
      clear hK K'
      try simp only [Act.put, List.setIfInBounds_toArray, List.set_cons_zero, List.set_cons_succ]
      refine wpAnyH_done (by kernel_rfl) ?_ _
      refine NoPanic.normal ?_
      go_wp2_with fail
      go_roundg q
      case measure => omega
      case rel => exact ⟨k + 1, by omega, by simp, by rw [← HP.out]; exact hm3, h1⟩
end Go.Proofs.Ytkfomhllaogplaa
