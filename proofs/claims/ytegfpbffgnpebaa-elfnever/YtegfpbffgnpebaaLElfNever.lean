/-
  The walk of ElfNever.
-/
import Derived.Test.YtegfpbffgnpebaaEW
namespace Go.Proofs.Ytegfpbffgnpebaa
open Go.RowKit El Go.Lib
open Classical
set_option linter.unusedSimpArgs false

theorem ltE' {w : World} {a : Addr} {v : Value} (h : w.cell? a = some v) : a.block < w.heap.size := by
  unfold World.cell? at h
  split at h
  · rename_i e; exact (Array.getElem?_eq_some_iff.1 e).1
  · cases h
theorem wpAnyH_more {P : Program} {md : Region.Mode} {ops : Array Oper} {Q : Exit → Act → World → Prop} {S S' : World → Prop} (h : ∀ w, S' w → S w) : ∀ (fuel : Nat) (listed : Array Bool) (a : Act) (w : World), wpAnyH P md ops Q S' fuel listed a w → wpAnyH P md ops Q S fuel listed a w
  | 0, _, _, _, hh => hh
  | fuel + 1, _, _, _, hh => ⟨hh.1, fun i hi => wpOp_mono (fun a' w' h' => ⟨h _ h'.1, wpAnyH_more h fuel _ a' w' h'.2⟩) (hh.2 i hi)⟩
theorem byte_conv (b : Nat) (cc : UInt8) (w : World) (h : w.cell? ⟨b, 0, none⟩ = some (.int .u8 (cc.toNat : Int))) : (convert 40 9 (.slice (some ⟨b, 0, none⟩) 1 1)).run Try.prog w = .ok (.string ⟨#[cc]⟩) w := by
  refine run_convert_bytes_back (P := Try.prog) w 40 9 5 ⟨b, 0, none⟩ 1 [cc] Try.underlying40 Try.underlying5 Try.underlying9 fun j hj => ?_
  have hj0 : j = 0 := by simpa using hj
  subst hj0
  simpa [Addr.add] using h
theorem cell_other_row (w : World) (b k : Nat) (cs : Array Value) (o : Nat) (h : k ≠ b) : (w.setRow b cs).cell? ⟨k, o, none⟩ = w.cell? ⟨k, o, none⟩ := by
  simp only [World.cell?, setRow_other _ _ _ _ h]
theorem sls_z3 {W : World} {v : Value} {l : List Seg} (h : SlS W v l) {b : Nat} (hb : W.heap[b]? = some (.cells Z3 25 (0, 0))) (cs : Array Value) : SlS (W.setRow b cs) v l := by
  rcases h with h | ⟨g, o, cap, e, hl, hg, hc⟩
  · exact .inl h
  · by_cases hz : l = []
    · subst hz; exact .inl ⟨_, _, e, rfl⟩
    · have hln : 0 < l.length := List.length_pos_iff.2 hz
      have hne : g ≠ b := fun e => by
        subst e
        obtain ⟨y, hy⟩ : ∃ y, l[0]? = some y := ⟨l[0], List.getElem?_eq_getElem hln⟩
        have h1 := (SlS.at hc 0 y hy).2.1
        simp only [World.cell?, hb] at h1
        simp at h1
        rcases o with _ | _ | o <;> simp at h1
      exact .inr ⟨g, o, cap, e, hl, by simpa using hg, fun j hj => by rw [cell_other_row _ _ _ _ _ hne]; exact hc j hj⟩
theorem TwoB.put {w W : World} {b : Nat} {X Y : Prg} {v u : Value} (h : LX w X v W) (hz : W.heap[b]? = some (.cells Z3 25 (0, 0))) (hs : SlS W u Y.segs) (hb : w.heap.size < b) : TwoB w b X Y v u (W.setRow b #[.int .u32 (Y.entry.toNat : Int), .int .u32 (Y.flags.toNat : Int), u]) :=
  ⟨⟨by rw [setRow_other _ _ _ _ (by omega)]; exact h.box, sls_z3 h.s hz _, below_setRowE h.low (by omega) _⟩, setRow_heap _ _ _ _ _ _ hz, sls_z3 hs hz _⟩
theorem drop_ext (S : List UInt8) (k : Nat) (h : k ≤ S.length) : (⟨S.toArray⟩ : ByteArray).extract k S.length = ⟨(S.drop k).toArray⟩ := by
  have := ext_mid S k (S.length - k)
  rw [show k + (S.length - k) = S.length by omega] at this
  rw [this, List.take_of_length_le (by rw [List.length_drop]; omega)]
set_option maxRecDepth 100000 in
set_option maxHeartbeats 4000000 in
theorem elfNever_walk (x : Prg) (u : Value) (a : Int) (cc : UInt8) (w : World) (hS : SlS w u x.segs) (hF : ∀ g ∈ x.segs, Fits g) :
    Calls Try.prog 8 #[prgV x u, .int .i64 a, .int .u8 (cc.toNat : Int)] w fun e w' => e = .returned (.bool true) ∧ Below w.heap.size w w' := by
  have b0 := (Below.refl _ w).alloc (Nat.le_refl _) (.cells #[.int .u32 (x.entry.toNat : Int), .int .u32 (x.flags.toNat : Int), u] 25)
  have HBd := hideE (bound_any x u _ (hS.below b0))
  have hx0 := heap_alloc_new w (.cells #[.int .u32 (x.entry.toNat : Int), .int .u32 (x.flags.toNat : Int), u] 25)
  have HX0 := hideE hx0
  have HB0 := hideE b0
  obtain ⟨X, hX⟩ : ∃ X, X = cutP x := ⟨_, rfl⟩
  have hXf := cut_fits hF
  obtain ⟨hX1, hX2⟩ := cut_data x
  rw [← hX] at HBd hXf hX1 hX2
  have HXf := hideE hXf
  clear hS hF hX hXf hx0 b0
  unfold prgV at HBd
  unfold prgV
  go_enter Try.func8, Try.ntmps8
  go_wp2_with fail
  refine HBd.out.mono ?_
  rintro e w1 ⟨v, rfl, hown, hb1⟩
  obtain ⟨p, c, rfl⟩ := own_slice' hown
  have hx1 := keptN hb1 HX0.out
  have hL := LX.put (X := X) hx1 hown (by simp) (HB0.out.trans (hb1.mono (by simp)))
  have HL := hideE hL
  clear hown hb1 hL HX0 HB0 HBd
  have hbx := HL.out.box
  have HW := hideE (write_any X _ HXf.out (fun _ => by omega) _ HL.out.s)
  unfold prgV at HW
  go_wp2_with (first
    | (refine wpList_store_row rfl 25 _ _ rfl w.heap.size _ rfl rfl _ _ hx1 (by kernel_rfl) rfl (by kernel_rfl) ?_)
    | (refine wpList_load_row rfl 25 _ rfl w.heap.size rfl _ _ _ _ hbx Try.underlying25 rfl (by kernel_rfl) ?_))
  refine HW.out.mono ?_
  rintro e w3 ⟨rfl, hb3⟩
  have HL3 := hideE (HL.out.below hb3)
  clear hb3 HW HL hx1 hbx HXf
  by_cases h0 : chk X.segs = 0
  · have hwl := wr_len X
    have hws := wr_small hX1 hX2
    have hv : wrV X = El.wr X := by unfold wrV; rw [if_pos h0]
    obtain ⟨d, hd, hde⟩ := mask16 a
    obtain ⟨d3, hd3, hde3⟩ := mask2 a
    have hoth := fun k hk => back_other (x := X) h0 (by omega) k cc hk
    rw [hv, h0]
    obtain ⟨r9, hr9l, hr9⟩ : ∃ r : Nat, r < 9 ∧ (d : Int).tmod 9 = (r : Int) := ⟨d % 9, by omega, by rw [Int.tmod_eq_emod_of_nonneg (by omega)]; omega⟩
    obtain ⟨r6, hr6l, hr6⟩ : ∃ r : Nat, r < 6 ∧ (d : Int).tmod 6 = (r : Int) := ⟨d % 6, by omega, by rw [Int.tmod_eq_emod_of_nonneg (by omega)]; omega⟩
    unfold other at hoth
    generalize El.wr X = S at *
    have hl52 : 52 ≤ S.length := by omega
    have hn52 : ¬ ((S.length : Int) < 52) := by omega
    have Hoth := hideE hoth
    clear hoth hv h0 hwl
    have main : ∀ k : Nat, (7 ≤ k ∧ k < 16 ∨ 32 ≤ k ∧ k < 36 ∨ 46 ≤ k ∧ k < 52) → True := fun _ _ => trivial
    clear main
    cases hq1 : (bits .and .i64 a 65536 != 0) <;> cases hq2 : (bits .and .i64 a 131072 != 0)
    · obtain ⟨k, hk⟩ : ∃ k : Nat, k = 7 + r9 := ⟨_, rfl⟩
      have hkv : 7 + (r9 : Int) = (k : Int) := by omega
      have hkc : 7 ≤ k ∧ k < 16 ∨ 32 ≤ k ∧ k < 36 ∨ 46 ≤ k ∧ k < 52 := by omega
      obtain ⟨O, hO⟩ : ∃ O, O = S.take k ++ ([cc] ++ S.drop (k + 1)) := ⟨_, rfl⟩
      have hoo := Hoth.out k hkc
      rw [← hO] at hoo
      have HO := hideE hoo
      have hOl : O.length ≤ 281474976710656 := by rw [hO]; simp; omega
      obtain ⟨A, hA⟩ : ∃ A, A = S.take k := ⟨_, rfl⟩
      obtain ⟨D, hD⟩ : ∃ D, D = S.drop (k + 1) := ⟨_, rfl⟩
      obtain ⟨AC, hAC⟩ : ∃ AC, AC = A ++ [cc] := ⟨_, rfl⟩
      have hcat1 : (⟨A.toArray⟩ : ByteArray) ++ ⟨#[cc]⟩ = ⟨AC.toArray⟩ := by rw [hAC]; exact cat_lists _ _
      have hcat2 : (⟨AC.toArray⟩ : ByteArray) ++ ⟨D.toArray⟩ = ⟨O.toArray⟩ := by rw [cat_lists, hO, hAC, hA, hD, List.append_assoc]
      have hext : (⟨S.toArray⟩ : ByteArray).extract 0 k = ⟨A.toArray⟩ := by rw [hA]; exact ext_to S k
      have hext2 : (⟨S.toArray⟩ : ByteArray).extract (k + 1) S.length = ⟨D.toArray⟩ := by rw [hD]; exact drop_ext S (k + 1) (by omega)
      have hl1 : ¬ (9223372036854775807 < A.length + 1) := by rw [hA, List.length_take]; omega
      have hl2 : ¬ (9223372036854775807 < AC.length + D.length) := by rw [hAC, hA, hD, List.length_append, List.length_take, List.length_drop]; simp; omega
      have hk0 : (0 : Int) ≤ (k : Int) := by omega
      have hkS : (k : Int) ≤ (S.length : Int) := by omega
      have hk1 : (0 : Int) ≤ (k : Int) + 1 := by omega
      have hk1S : (k : Int) + 1 ≤ (S.length : Int) := by omega
      have hwk1 : IntKind.i64.wrap ((k : Int) + 1) = (k : Int) + 1 := wrE (by omega) (by omega)
      clear hO hoo hkc hA hD hAC hk
      go_wp2_with fail
      have h3 := HL3.out.below (Below.refl _ w3).drew
      refine wp_region_noPanic ?_
      refine wp_region_held_drew (S := LX w X (.slice p X.segs.length c)) (by kernel_rfl) h3 (fun h0 => ?_)
      refine wpAnyH_takeAt (i := 0) (v := ?_) rfl (by kernel_rfl) (by kernel_rfl) (by kernel_rfl) (fun _ _ _ h => h) (Or.inl ⟨by rfl, ?_⟩) h0 ?_
      rotate_left 1
      · intro w' hS; clear hS
        go_simp <;> with_reducible rfl
      try simp only [Act.put, List.setIfInBounds_toArray, List.set_cons_zero, List.set_cons_succ]
      refine wpAnyH_takeAt (i := 1) (v := ?_) rfl (by kernel_rfl) (by kernel_rfl) (by kernel_rfl) (fun _ _ _ h => h) (Or.inl ⟨by rfl, ?_⟩) h0 ?_
      rotate_left 1
      · intro w' hS; clear hS
        go_simp <;> with_reducible rfl
      try simp only [Act.put, List.setIfInBounds_toArray, List.set_cons_zero, List.set_cons_succ]
      refine wpAnyH_takeAt (i := 2) (v := .string ⟨A.toArray⟩) rfl (by kernel_rfl) (by kernel_rfl) (by kernel_rfl) (fun _ _ _ h => h) (Or.inl ⟨by rfl, ?_⟩) h0 ?_
      · intro w' hS; clear hS
        go_simp
      try simp only [Act.put, List.setIfInBounds_toArray, List.set_cons_zero, List.set_cons_succ]
      refine wpAnyH_takeAt (i := 3) (v := ?_) rfl (by kernel_rfl) (by kernel_rfl) (by kernel_rfl) (fun _ _ _ h => h) (Or.inl ⟨by rfl, ?_⟩) h0 ?_
      rotate_left 1
      · intro w' hS; clear hS
        go_simp <;> with_reducible rfl
      try simp only [Act.put, List.setIfInBounds_toArray, List.set_cons_zero, List.set_cons_succ]
      refine wpAnyH_takeAt (i := 7) (v := ?_) rfl (by kernel_rfl) (by kernel_rfl) (by kernel_rfl) (fun _ _ _ h => h) (Or.inl ⟨by rfl, ?_⟩) h0 ?_
      rotate_left 1
      · intro w' hS; clear hS
        go_simp <;> with_reducible rfl
      try simp only [Act.put, List.setIfInBounds_toArray, List.set_cons_zero, List.set_cons_succ]
      refine wpAnyH_takeAt (i := 8) (v := ?_) rfl (by kernel_rfl) (by kernel_rfl) (by kernel_rfl) (fun _ _ _ h => h) (Or.inl ⟨by rfl, ?_⟩) h0 ?_
      rotate_left 1
      · intro w' hS; clear hS
        go_simp <;> with_reducible rfl
      try simp only [Act.put, List.setIfInBounds_toArray, List.set_cons_zero, List.set_cons_succ]
      refine wpAnyH_takeAt (i := 9) (v := .int .i64 ((k : Int) + 1)) rfl (by kernel_rfl) (by kernel_rfl) (by kernel_rfl) (fun _ _ _ h => h) (Or.inl ⟨by rfl, ?_⟩) h0 ?_
      · intro w' hS; clear hS
        go_simp
      try simp only [Act.put, List.setIfInBounds_toArray, List.set_cons_zero, List.set_cons_succ]
      refine wpAnyH_takeAt (i := 10) (v := .string ⟨D.toArray⟩) rfl (by kernel_rfl) (by kernel_rfl) (by kernel_rfl) (fun _ _ _ h => h) (Or.inl ⟨by rfl, ?_⟩) h0 ?_
      · intro w' hS; clear hS
        go_simp
      try simp only [Act.put, List.setIfInBounds_toArray, List.set_cons_zero, List.set_cons_succ]
      refine wpAnyH_ready (rs := [4, 16]) (by kernel_rfl) (by simp) (AllReadyH.cons (at_drop rfl) (fun K hK => ?_) (allReady_at rfl (fun K hK => ?_)))
      · go_simp
        have h1 := h0.alloc (.cells #[.int .u8 (cc.toNat : Int)] 5)
        refine hK.out _ _ h1 (fun _ => ?_)
        clear hK K
        try simp only [Act.put, List.setIfInBounds_toArray, List.set_cons_zero, List.set_cons_succ]
        refine wpAnyH_more (S' := (fun W => LX w X (.slice p X.segs.length c) W ∧ W.cell? ⟨w3.heap.size, 0, none⟩ = some (.int .u8 (cc.toNat : Int)))) (fun _ h => h.1) _ _ _ _ ?_
        have h1' : (fun W => LX w X (.slice p X.segs.length c) W ∧ W.cell? ⟨w3.heap.size, 0, none⟩ = some (.int .u8 (cc.toNat : Int))) _ := ⟨h1, by first | exact alloc_cell _ _ _ | (have := alloc_cell (World.alloc w3.drew (.cells Z3 25)) (.int .u8 (cc.toNat : Int)) 5; rwa [show (World.alloc w3.drew (.cells Z3 25)).heap.size = w3.heap.size + 1 by simp] at this)⟩
        refine wpAnyH_takeAt (i := 5) (v := .string ⟨#[cc]⟩) rfl (by kernel_rfl) (by kernel_rfl) (by kernel_rfl) (fun _ _ _ h => h) (Or.inl ⟨by rfl, ?_⟩) h1' ?_
        · intro w' hS; have y0 := byte_conv (w3.heap.size) cc w' hS.2; clear hS
          go_simp
        try simp only [Act.put, List.setIfInBounds_toArray, List.set_cons_zero, List.set_cons_succ]
        refine wpAnyH_takeAt (i := 6) (v := .string ⟨AC.toArray⟩) rfl (by kernel_rfl) (by kernel_rfl) (by kernel_rfl) (fun _ _ _ h => h) (Or.inl ⟨by rfl, ?_⟩) h1' ?_
        · intro w' hS; clear hS
          go_simp
        try simp only [Act.put, List.setIfInBounds_toArray, List.set_cons_zero, List.set_cons_succ]
        refine wpAnyH_takeAt (i := 11) (v := .string ⟨O.toArray⟩) rfl (by kernel_rfl) (by kernel_rfl) (by kernel_rfl) (fun _ _ _ h => h) (Or.inl ⟨by rfl, ?_⟩) h1' ?_
        · intro w' hS; clear hS
          go_simp
        try simp only [Act.put, List.setIfInBounds_toArray, List.set_cons_zero, List.set_cons_succ]
        refine wpAnyH_ready (rs := [12, 16]) (by kernel_rfl) (by simp) (AllReadyH.cons (at_drop rfl) (fun K hK => ?_) (allReady_at rfl (fun K hK => ?_)))
        · go_simp
          refine (parse_any O hOl _).mono ?_
          rintro e w5 ⟨v5, he, hS5, hb5⟩
          rw [HO.out.2] at hS5
          rw [HO.out.1, HO.out.2] at he
          obtain ⟨p5, c5, rfl, _⟩ := hS5.len
          unfold prgV at he
          subst he
          dsimp only
          have h5 : (fun W => LX w X (.slice p X.segs.length c) W ∧ W.cell? ⟨w3.heap.size, 0, none⟩ = some (.int .u8 (cc.toNat : Int))) w5 := ⟨h1'.1.below hb5, by rw [(below_cell hb5 (by simp)).1]; exact h1'.2⟩
          refine hK.out _ _ h5 (fun _ => ?_)
          clear hK K
          try simp only [Act.put, List.setIfInBounds_toArray, List.set_cons_zero, List.set_cons_succ]
          refine wpAnyH_takeAt (i := 13) (v := ?_) rfl (by kernel_rfl) (by kernel_rfl) (by kernel_rfl) (fun _ _ _ h => h) (Or.inl ⟨by rfl, ?_⟩) h5 ?_
          rotate_left 1
          · intro w' hS; clear hS
            go_simp <;> with_reducible rfl
          try simp only [Act.put, List.setIfInBounds_toArray, List.set_cons_zero, List.set_cons_succ]
          refine wpAnyH_takeAt (i := 14) (v := ?_) rfl (by kernel_rfl) (by kernel_rfl) (by kernel_rfl) (fun _ _ _ h => h) (Or.inl ⟨by rfl, ?_⟩) h5 ?_
          rotate_left 1
          · intro w' hS; clear hS
            go_simp <;> with_reducible rfl
          try simp only [Act.put, List.setIfInBounds_toArray, List.set_cons_zero, List.set_cons_succ]
          refine wpAnyH_takeAt (i := 15) (v := ?_) rfl (by kernel_rfl) (by kernel_rfl) (by kernel_rfl) (fun _ _ _ h => h) (Or.inl ⟨by rfl, ?_⟩) h5 ?_
          rotate_left 1
          · intro w' hS; clear hS
            go_simp <;> with_reducible rfl
          try simp only [Act.put, List.setIfInBounds_toArray, List.set_cons_zero, List.set_cons_succ]
          refine wpAnyH_ready (rs := [16]) (by kernel_rfl) (by simp) (allReady_at rfl (fun K hK => ?_))
          go_simp
          have h6 : (fun W => LX w X (.slice p X.segs.length c) W ∧ W.cell? ⟨w3.heap.size, 0, none⟩ = some (.int .u8 (cc.toNat : Int))) _ := ⟨h5.1.alloc (.cells Z3 25), by rw [(below_cell ((Below.refl _ _).alloc (Nat.le_refl _) _) (ltE' h5.2)).1]; exact h5.2⟩
          refine hK.out _ _ h6 (fun _ => ?_)
          clear hK K
          try simp only [Act.put, List.setIfInBounds_toArray, List.set_cons_zero, List.set_cons_succ]
          have hz := heap_alloc_new w5 (.cells Z3 25)
          have hS6 := hS5.below ((Below.refl _ w5).alloc (Nat.le_refl _) (.cells Z3 25))
          refine wpAnyH_ready (rs := [17]) (by kernel_rfl) (by simp) (allReady_at rfl (fun K hK => ?_))
          rw [if_pos (by rfl)]
          refine wp_store_row 25 _ _ rfl (w5.heap.size) _ rfl rfl _ _ hz (by kernel_rfl) rfl (by kernel_rfl) ?_
          have hT := TwoB.put (X := X) (Y := X) h6.1 hz hS6 (by have h1 := (Array.getElem?_eq_some_iff.1 HL3.out.box).1; first | omega | (have h2 := hb5.size; simp at h2 ⊢; omega))
          have h9 : (fun W => LX w X (.slice p X.segs.length c) W ∧ W.cell? ⟨w3.heap.size, 0, none⟩ = some (.int .u8 (cc.toNat : Int))) _ := ⟨hT.x, by rw [cell_other_row _ _ _ _ _ (by first | omega | (have := hb5.size; simp at this ⊢; omega))]; exact h6.2⟩
          refine hK.out _ _ h9 (fun _ => ?_)
          clear hK K
          try simp only [Act.put, List.setIfInBounds_toArray, List.set_cons_zero, List.set_cons_succ]
          refine wpAnyH_takeAt (i := 18) (v := ?_) rfl (by kernel_rfl) (by kernel_rfl) (by kernel_rfl) (fun _ _ _ h => h) (Or.inl ⟨by rfl, ?_⟩) h9 ?_
          rotate_left 1
          · intro w' hS; clear hS
            go_simp <;> with_reducible rfl
          try simp only [Act.put, List.setIfInBounds_toArray, List.set_cons_zero, List.set_cons_succ]
          refine wpAnyH_done (by kernel_rfl) ?_ _
          refine NoPanic.normal ?_
          refine gen_world (TwoB w _ X X (.slice p X.segs.length c) (.slice p5 X.segs.length c5)) hT ?_
          intro w8 hT8
          clear hT h9
          obtain ⟨⟨a0, a1, a2⟩, _⟩ := three hT8.x.box
          obtain ⟨⟨d0, d1, d2⟩, _⟩ := three hT8.y
          have HSm := hideE (same_self X (.slice p X.segs.length c) (.slice p5 X.segs.length c5) (by omega) _ hT8.x.s hT8.s)
          unfold prgV at HSm
          have HT := hideE hT8
          clear hT8
          go_wp2_with fail
          refine HSm.out.mono ?_
          rintro e w6 ⟨rfl, hb6⟩
          have hb := HT.out.x.low.trans (hb6.mono HT.out.x.low.size)
          go_wp2_with (go_at_call 12; refine (fixed6_any _).mono ?_; rintro e w7 ⟨rfl, hb7⟩)
          go_ret
          exact ⟨rfl, hb.trans (hb7.mono hb.size)⟩
        · go_simp
          have h2 : (fun W => LX w X (.slice p X.segs.length c) W ∧ W.cell? ⟨w3.heap.size, 0, none⟩ = some (.int .u8 (cc.toNat : Int))) _ := ⟨h1'.1.alloc (.cells Z3 25), by rw [(below_cell ((Below.refl _ _).alloc (Nat.le_refl _) _) (ltE' h1'.2)).1]; exact h1'.2⟩
          refine hK.out _ _ h2 (fun _ => ?_)
          clear hK K
          try simp only [Act.put, List.setIfInBounds_toArray, List.set_cons_zero, List.set_cons_succ]
          refine wpAnyH_ready (rs := [12]) (by kernel_rfl) (by simp) (allReady_at rfl (fun K hK => ?_))
          go_simp
          refine (parse_any O hOl _).mono ?_
          rintro e w5 ⟨v5, he, hS5, hb5⟩
          rw [HO.out.2] at hS5
          rw [HO.out.1, HO.out.2] at he
          obtain ⟨p5, c5, rfl, _⟩ := hS5.len
          unfold prgV at he
          subst he
          dsimp only
          have h5 : (fun W => LX w X (.slice p X.segs.length c) W ∧ W.cell? ⟨w3.heap.size, 0, none⟩ = some (.int .u8 (cc.toNat : Int))) w5 := ⟨h2.1.below hb5, by rw [(below_cell hb5 (by simp; omega)).1]; exact h2.2⟩
          have hz : w5.heap[w3.heap.size + 1]? = some (.cells Z3 25 (0, 0)) := keptN hb5 (by rw [show w3.heap.size + 1 = (World.alloc w3.drew (.cells #[.int .u8 (cc.toNat : Int)] 5)).heap.size by simp]; exact heap_alloc_new _ _)
          refine hK.out _ _ h5 (fun _ => ?_)
          clear hK K
          try simp only [Act.put, List.setIfInBounds_toArray, List.set_cons_zero, List.set_cons_succ]
          refine wpAnyH_takeAt (i := 13) (v := ?_) rfl (by kernel_rfl) (by kernel_rfl) (by kernel_rfl) (fun _ _ _ h => h) (Or.inl ⟨by rfl, ?_⟩) h5 ?_
          rotate_left 1
          · intro w' hS; clear hS
            go_simp <;> with_reducible rfl
          try simp only [Act.put, List.setIfInBounds_toArray, List.set_cons_zero, List.set_cons_succ]
          refine wpAnyH_takeAt (i := 14) (v := ?_) rfl (by kernel_rfl) (by kernel_rfl) (by kernel_rfl) (fun _ _ _ h => h) (Or.inl ⟨by rfl, ?_⟩) h5 ?_
          rotate_left 1
          · intro w' hS; clear hS
            go_simp <;> with_reducible rfl
          try simp only [Act.put, List.setIfInBounds_toArray, List.set_cons_zero, List.set_cons_succ]
          refine wpAnyH_takeAt (i := 15) (v := ?_) rfl (by kernel_rfl) (by kernel_rfl) (by kernel_rfl) (fun _ _ _ h => h) (Or.inl ⟨by rfl, ?_⟩) h5 ?_
          rotate_left 1
          · intro w' hS; clear hS
            go_simp <;> with_reducible rfl
          try simp only [Act.put, List.setIfInBounds_toArray, List.set_cons_zero, List.set_cons_succ]
          refine wpAnyH_ready (rs := [17]) (by kernel_rfl) (by simp) (allReady_at rfl (fun K hK => ?_))
          rw [if_pos (by rfl)]
          refine wp_store_row 25 _ _ rfl (w3.heap.size + 1) _ rfl rfl _ _ hz (by kernel_rfl) rfl (by kernel_rfl) ?_
          have hT := TwoB.put (X := X) (Y := X) h5.1 hz hS5 (by have h1 := (Array.getElem?_eq_some_iff.1 HL3.out.box).1; first | omega | (have h2 := hb5.size; simp at h2 ⊢; omega))
          have h9 : (fun W => LX w X (.slice p X.segs.length c) W ∧ W.cell? ⟨w3.heap.size, 0, none⟩ = some (.int .u8 (cc.toNat : Int))) _ := ⟨hT.x, by rw [cell_other_row _ _ _ _ _ (by first | omega | (have := hb5.size; simp at this ⊢; omega))]; exact h5.2⟩
          refine hK.out _ _ h9 (fun _ => ?_)
          clear hK K
          try simp only [Act.put, List.setIfInBounds_toArray, List.set_cons_zero, List.set_cons_succ]
          refine wpAnyH_takeAt (i := 18) (v := ?_) rfl (by kernel_rfl) (by kernel_rfl) (by kernel_rfl) (fun _ _ _ h => h) (Or.inl ⟨by rfl, ?_⟩) h9 ?_
          rotate_left 1
          · intro w' hS; clear hS
            go_simp <;> with_reducible rfl
          try simp only [Act.put, List.setIfInBounds_toArray, List.set_cons_zero, List.set_cons_succ]
          refine wpAnyH_done (by kernel_rfl) ?_ _
          refine NoPanic.normal ?_
          refine gen_world (TwoB w _ X X (.slice p X.segs.length c) (.slice p5 X.segs.length c5)) hT ?_
          intro w8 hT8
          clear hT h9
          obtain ⟨⟨a0, a1, a2⟩, _⟩ := three hT8.x.box
          obtain ⟨⟨d0, d1, d2⟩, _⟩ := three hT8.y
          have HSm := hideE (same_self X (.slice p X.segs.length c) (.slice p5 X.segs.length c5) (by omega) _ hT8.x.s hT8.s)
          unfold prgV at HSm
          have HT := hideE hT8
          clear hT8
          go_wp2_with fail
          refine HSm.out.mono ?_
          rintro e w6 ⟨rfl, hb6⟩
          have hb := HT.out.x.low.trans (hb6.mono HT.out.x.low.size)
          go_wp2_with (go_at_call 12; refine (fixed6_any _).mono ?_; rintro e w7 ⟨rfl, hb7⟩)
          go_ret
          exact ⟨rfl, hb.trans (hb7.mono hb.size)⟩
      · go_simp
        have h1 := h0.alloc (.cells Z3 25)
        refine hK.out _ _ h1 (fun _ => ?_)
        clear hK K
        try simp only [Act.put, List.setIfInBounds_toArray, List.set_cons_zero, List.set_cons_succ]
        refine wpAnyH_ready (rs := [4]) (by kernel_rfl) (by simp) (allReady_at rfl (fun K hK => ?_))
        go_simp
        have h2 := h1.alloc (.cells #[.int .u8 (cc.toNat : Int)] 5)
        refine hK.out _ _ h2 (fun _ => ?_)
        clear hK K
        try simp only [Act.put, List.setIfInBounds_toArray, List.set_cons_zero, List.set_cons_succ]
        refine wpAnyH_more (S' := (fun W => LX w X (.slice p X.segs.length c) W ∧ W.cell? ⟨w3.heap.size + 1, 0, none⟩ = some (.int .u8 (cc.toNat : Int)))) (fun _ h => h.1) _ _ _ _ ?_
        have h2' : (fun W => LX w X (.slice p X.segs.length c) W ∧ W.cell? ⟨w3.heap.size + 1, 0, none⟩ = some (.int .u8 (cc.toNat : Int))) _ := ⟨h2, by first | exact alloc_cell _ _ _ | (have := alloc_cell (World.alloc w3.drew (.cells Z3 25)) (.int .u8 (cc.toNat : Int)) 5; rwa [show (World.alloc w3.drew (.cells Z3 25)).heap.size = w3.heap.size + 1 by simp] at this)⟩
        refine wpAnyH_takeAt (i := 5) (v := .string ⟨#[cc]⟩) rfl (by kernel_rfl) (by kernel_rfl) (by kernel_rfl) (fun _ _ _ h => h) (Or.inl ⟨by rfl, ?_⟩) h2' ?_
        · intro w' hS; have y0 := byte_conv (w3.heap.size + 1) cc w' hS.2; clear hS
          go_simp
        try simp only [Act.put, List.setIfInBounds_toArray, List.set_cons_zero, List.set_cons_succ]
        refine wpAnyH_takeAt (i := 6) (v := .string ⟨AC.toArray⟩) rfl (by kernel_rfl) (by kernel_rfl) (by kernel_rfl) (fun _ _ _ h => h) (Or.inl ⟨by rfl, ?_⟩) h2' ?_
        · intro w' hS; clear hS
          go_simp
        try simp only [Act.put, List.setIfInBounds_toArray, List.set_cons_zero, List.set_cons_succ]
        refine wpAnyH_takeAt (i := 11) (v := .string ⟨O.toArray⟩) rfl (by kernel_rfl) (by kernel_rfl) (by kernel_rfl) (fun _ _ _ h => h) (Or.inl ⟨by rfl, ?_⟩) h2' ?_
        · intro w' hS; clear hS
          go_simp
        try simp only [Act.put, List.setIfInBounds_toArray, List.set_cons_zero, List.set_cons_succ]
        refine wpAnyH_ready (rs := [12]) (by kernel_rfl) (by simp) (allReady_at rfl (fun K hK => ?_))
        go_simp
        refine (parse_any O hOl _).mono ?_
        rintro e w5 ⟨v5, he, hS5, hb5⟩
        rw [HO.out.2] at hS5
        rw [HO.out.1, HO.out.2] at he
        obtain ⟨p5, c5, rfl, _⟩ := hS5.len
        unfold prgV at he
        subst he
        dsimp only
        have h5 : (fun W => LX w X (.slice p X.segs.length c) W ∧ W.cell? ⟨w3.heap.size + 1, 0, none⟩ = some (.int .u8 (cc.toNat : Int))) w5 := ⟨h2'.1.below hb5, by rw [(below_cell hb5 (by simp; try omega)).1]; exact h2'.2⟩
        have hz : w5.heap[w3.heap.size]? = some (.cells Z3 25 (0, 0)) := keptN hb5 (by show ((World.alloc w3 _).alloc _).heap[w3.heap.size]? = _; rw [Below.heap_alloc _ _ _ (by simp)]; exact heap_alloc_new w3 _)
        refine hK.out _ _ h5 (fun _ => ?_)
        clear hK K
        try simp only [Act.put, List.setIfInBounds_toArray, List.set_cons_zero, List.set_cons_succ]
        refine wpAnyH_takeAt (i := 13) (v := ?_) rfl (by kernel_rfl) (by kernel_rfl) (by kernel_rfl) (fun _ _ _ h => h) (Or.inl ⟨by rfl, ?_⟩) h5 ?_
        rotate_left 1
        · intro w' hS; clear hS
          go_simp <;> with_reducible rfl
        try simp only [Act.put, List.setIfInBounds_toArray, List.set_cons_zero, List.set_cons_succ]
        refine wpAnyH_takeAt (i := 14) (v := ?_) rfl (by kernel_rfl) (by kernel_rfl) (by kernel_rfl) (fun _ _ _ h => h) (Or.inl ⟨by rfl, ?_⟩) h5 ?_
        rotate_left 1
        · intro w' hS; clear hS
          go_simp <;> with_reducible rfl
        try simp only [Act.put, List.setIfInBounds_toArray, List.set_cons_zero, List.set_cons_succ]
        refine wpAnyH_takeAt (i := 15) (v := ?_) rfl (by kernel_rfl) (by kernel_rfl) (by kernel_rfl) (fun _ _ _ h => h) (Or.inl ⟨by rfl, ?_⟩) h5 ?_
        rotate_left 1
        · intro w' hS; clear hS
          go_simp <;> with_reducible rfl
        try simp only [Act.put, List.setIfInBounds_toArray, List.set_cons_zero, List.set_cons_succ]
        refine wpAnyH_ready (rs := [17]) (by kernel_rfl) (by simp) (allReady_at rfl (fun K hK => ?_))
        rw [if_pos (by rfl)]
        refine wp_store_row 25 _ _ rfl (w3.heap.size) _ rfl rfl _ _ hz (by kernel_rfl) rfl (by kernel_rfl) ?_
        have hT := TwoB.put (X := X) (Y := X) h5.1 hz hS5 (by have h1 := (Array.getElem?_eq_some_iff.1 HL3.out.box).1; first | omega | (have h2 := hb5.size; simp at h2 ⊢; omega))
        have h9 : (fun W => LX w X (.slice p X.segs.length c) W ∧ W.cell? ⟨w3.heap.size + 1, 0, none⟩ = some (.int .u8 (cc.toNat : Int))) _ := ⟨hT.x, by rw [cell_other_row _ _ _ _ _ (by first | omega | (have := hb5.size; simp at this ⊢; omega))]; exact h5.2⟩
        refine hK.out _ _ h9 (fun _ => ?_)
        clear hK K
        try simp only [Act.put, List.setIfInBounds_toArray, List.set_cons_zero, List.set_cons_succ]
        refine wpAnyH_takeAt (i := 18) (v := ?_) rfl (by kernel_rfl) (by kernel_rfl) (by kernel_rfl) (fun _ _ _ h => h) (Or.inl ⟨by rfl, ?_⟩) h9 ?_
        rotate_left 1
        · intro w' hS; clear hS
          go_simp <;> with_reducible rfl
        try simp only [Act.put, List.setIfInBounds_toArray, List.set_cons_zero, List.set_cons_succ]
        refine wpAnyH_done (by kernel_rfl) ?_ _
        refine NoPanic.normal ?_
        refine gen_world (TwoB w _ X X (.slice p X.segs.length c) (.slice p5 X.segs.length c5)) hT ?_
        intro w8 hT8
        clear hT h9
        obtain ⟨⟨a0, a1, a2⟩, _⟩ := three hT8.x.box
        obtain ⟨⟨d0, d1, d2⟩, _⟩ := three hT8.y
        have HSm := hideE (same_self X (.slice p X.segs.length c) (.slice p5 X.segs.length c5) (by omega) _ hT8.x.s hT8.s)
        unfold prgV at HSm
        have HT := hideE hT8
        clear hT8
        go_wp2_with fail
        refine HSm.out.mono ?_
        rintro e w6 ⟨rfl, hb6⟩
        have hb := HT.out.x.low.trans (hb6.mono HT.out.x.low.size)
        go_wp2_with (go_at_call 12; refine (fixed6_any _).mono ?_; rintro e w7 ⟨rfl, hb7⟩)
        go_ret
        exact ⟨rfl, hb.trans (hb7.mono hb.size)⟩
    · obtain ⟨k, hk⟩ : ∃ k : Nat, k = 32 + d3 := ⟨_, rfl⟩
      have hkv : 32 + (d3 : Int) = (k : Int) := by omega
      have hkc : 7 ≤ k ∧ k < 16 ∨ 32 ≤ k ∧ k < 36 ∨ 46 ≤ k ∧ k < 52 := by omega
      obtain ⟨O, hO⟩ : ∃ O, O = S.take k ++ ([cc] ++ S.drop (k + 1)) := ⟨_, rfl⟩
      have hoo := Hoth.out k hkc
      rw [← hO] at hoo
      have HO := hideE hoo
      have hOl : O.length ≤ 281474976710656 := by rw [hO]; simp; omega
      obtain ⟨A, hA⟩ : ∃ A, A = S.take k := ⟨_, rfl⟩
      obtain ⟨D, hD⟩ : ∃ D, D = S.drop (k + 1) := ⟨_, rfl⟩
      obtain ⟨AC, hAC⟩ : ∃ AC, AC = A ++ [cc] := ⟨_, rfl⟩
      have hcat1 : (⟨A.toArray⟩ : ByteArray) ++ ⟨#[cc]⟩ = ⟨AC.toArray⟩ := by rw [hAC]; exact cat_lists _ _
      have hcat2 : (⟨AC.toArray⟩ : ByteArray) ++ ⟨D.toArray⟩ = ⟨O.toArray⟩ := by rw [cat_lists, hO, hAC, hA, hD, List.append_assoc]
      have hext : (⟨S.toArray⟩ : ByteArray).extract 0 k = ⟨A.toArray⟩ := by rw [hA]; exact ext_to S k
      have hext2 : (⟨S.toArray⟩ : ByteArray).extract (k + 1) S.length = ⟨D.toArray⟩ := by rw [hD]; exact drop_ext S (k + 1) (by omega)
      have hl1 : ¬ (9223372036854775807 < A.length + 1) := by rw [hA, List.length_take]; omega
      have hl2 : ¬ (9223372036854775807 < AC.length + D.length) := by rw [hAC, hA, hD, List.length_append, List.length_take, List.length_drop]; simp; omega
      have hk0 : (0 : Int) ≤ (k : Int) := by omega
      have hkS : (k : Int) ≤ (S.length : Int) := by omega
      have hk1 : (0 : Int) ≤ (k : Int) + 1 := by omega
      have hk1S : (k : Int) + 1 ≤ (S.length : Int) := by omega
      have hwk1 : IntKind.i64.wrap ((k : Int) + 1) = (k : Int) + 1 := wrE (by omega) (by omega)
      clear hO hoo hkc hA hD hAC hk
      go_wp2_with fail
      have h3 := HL3.out.below (Below.refl _ w3).drew
      refine wp_region_noPanic ?_
      refine wp_region_held_drew (S := LX w X (.slice p X.segs.length c)) (by kernel_rfl) h3 (fun h0 => ?_)
      refine wpAnyH_takeAt (i := 0) (v := ?_) rfl (by kernel_rfl) (by kernel_rfl) (by kernel_rfl) (fun _ _ _ h => h) (Or.inl ⟨by rfl, ?_⟩) h0 ?_
      rotate_left 1
      · intro w' hS; clear hS
        go_simp <;> with_reducible rfl
      try simp only [Act.put, List.setIfInBounds_toArray, List.set_cons_zero, List.set_cons_succ]
      refine wpAnyH_takeAt (i := 1) (v := ?_) rfl (by kernel_rfl) (by kernel_rfl) (by kernel_rfl) (fun _ _ _ h => h) (Or.inl ⟨by rfl, ?_⟩) h0 ?_
      rotate_left 1
      · intro w' hS; clear hS
        go_simp <;> with_reducible rfl
      try simp only [Act.put, List.setIfInBounds_toArray, List.set_cons_zero, List.set_cons_succ]
      refine wpAnyH_takeAt (i := 2) (v := .string ⟨A.toArray⟩) rfl (by kernel_rfl) (by kernel_rfl) (by kernel_rfl) (fun _ _ _ h => h) (Or.inl ⟨by rfl, ?_⟩) h0 ?_
      · intro w' hS; clear hS
        go_simp
      try simp only [Act.put, List.setIfInBounds_toArray, List.set_cons_zero, List.set_cons_succ]
      refine wpAnyH_takeAt (i := 3) (v := ?_) rfl (by kernel_rfl) (by kernel_rfl) (by kernel_rfl) (fun _ _ _ h => h) (Or.inl ⟨by rfl, ?_⟩) h0 ?_
      rotate_left 1
      · intro w' hS; clear hS
        go_simp <;> with_reducible rfl
      try simp only [Act.put, List.setIfInBounds_toArray, List.set_cons_zero, List.set_cons_succ]
      refine wpAnyH_takeAt (i := 7) (v := ?_) rfl (by kernel_rfl) (by kernel_rfl) (by kernel_rfl) (fun _ _ _ h => h) (Or.inl ⟨by rfl, ?_⟩) h0 ?_
      rotate_left 1
      · intro w' hS; clear hS
        go_simp <;> with_reducible rfl
      try simp only [Act.put, List.setIfInBounds_toArray, List.set_cons_zero, List.set_cons_succ]
      refine wpAnyH_takeAt (i := 8) (v := ?_) rfl (by kernel_rfl) (by kernel_rfl) (by kernel_rfl) (fun _ _ _ h => h) (Or.inl ⟨by rfl, ?_⟩) h0 ?_
      rotate_left 1
      · intro w' hS; clear hS
        go_simp <;> with_reducible rfl
      try simp only [Act.put, List.setIfInBounds_toArray, List.set_cons_zero, List.set_cons_succ]
      refine wpAnyH_takeAt (i := 9) (v := .int .i64 ((k : Int) + 1)) rfl (by kernel_rfl) (by kernel_rfl) (by kernel_rfl) (fun _ _ _ h => h) (Or.inl ⟨by rfl, ?_⟩) h0 ?_
      · intro w' hS; clear hS
        go_simp
      try simp only [Act.put, List.setIfInBounds_toArray, List.set_cons_zero, List.set_cons_succ]
      refine wpAnyH_takeAt (i := 10) (v := .string ⟨D.toArray⟩) rfl (by kernel_rfl) (by kernel_rfl) (by kernel_rfl) (fun _ _ _ h => h) (Or.inl ⟨by rfl, ?_⟩) h0 ?_
      · intro w' hS; clear hS
        go_simp
      try simp only [Act.put, List.setIfInBounds_toArray, List.set_cons_zero, List.set_cons_succ]
      refine wpAnyH_ready (rs := [4, 16]) (by kernel_rfl) (by simp) (AllReadyH.cons (at_drop rfl) (fun K hK => ?_) (allReady_at rfl (fun K hK => ?_)))
      · go_simp
        have h1 := h0.alloc (.cells #[.int .u8 (cc.toNat : Int)] 5)
        refine hK.out _ _ h1 (fun _ => ?_)
        clear hK K
        try simp only [Act.put, List.setIfInBounds_toArray, List.set_cons_zero, List.set_cons_succ]
        refine wpAnyH_more (S' := (fun W => LX w X (.slice p X.segs.length c) W ∧ W.cell? ⟨w3.heap.size, 0, none⟩ = some (.int .u8 (cc.toNat : Int)))) (fun _ h => h.1) _ _ _ _ ?_
        have h1' : (fun W => LX w X (.slice p X.segs.length c) W ∧ W.cell? ⟨w3.heap.size, 0, none⟩ = some (.int .u8 (cc.toNat : Int))) _ := ⟨h1, by first | exact alloc_cell _ _ _ | (have := alloc_cell (World.alloc w3.drew (.cells Z3 25)) (.int .u8 (cc.toNat : Int)) 5; rwa [show (World.alloc w3.drew (.cells Z3 25)).heap.size = w3.heap.size + 1 by simp] at this)⟩
        refine wpAnyH_takeAt (i := 5) (v := .string ⟨#[cc]⟩) rfl (by kernel_rfl) (by kernel_rfl) (by kernel_rfl) (fun _ _ _ h => h) (Or.inl ⟨by rfl, ?_⟩) h1' ?_
        · intro w' hS; have y0 := byte_conv (w3.heap.size) cc w' hS.2; clear hS
          go_simp
        try simp only [Act.put, List.setIfInBounds_toArray, List.set_cons_zero, List.set_cons_succ]
        refine wpAnyH_takeAt (i := 6) (v := .string ⟨AC.toArray⟩) rfl (by kernel_rfl) (by kernel_rfl) (by kernel_rfl) (fun _ _ _ h => h) (Or.inl ⟨by rfl, ?_⟩) h1' ?_
        · intro w' hS; clear hS
          go_simp
        try simp only [Act.put, List.setIfInBounds_toArray, List.set_cons_zero, List.set_cons_succ]
        refine wpAnyH_takeAt (i := 11) (v := .string ⟨O.toArray⟩) rfl (by kernel_rfl) (by kernel_rfl) (by kernel_rfl) (fun _ _ _ h => h) (Or.inl ⟨by rfl, ?_⟩) h1' ?_
        · intro w' hS; clear hS
          go_simp
        try simp only [Act.put, List.setIfInBounds_toArray, List.set_cons_zero, List.set_cons_succ]
        refine wpAnyH_ready (rs := [12, 16]) (by kernel_rfl) (by simp) (AllReadyH.cons (at_drop rfl) (fun K hK => ?_) (allReady_at rfl (fun K hK => ?_)))
        · go_simp
          refine (parse_any O hOl _).mono ?_
          rintro e w5 ⟨v5, he, hS5, hb5⟩
          rw [HO.out.2] at hS5
          rw [HO.out.1, HO.out.2] at he
          obtain ⟨p5, c5, rfl, _⟩ := hS5.len
          unfold prgV at he
          subst he
          dsimp only
          have h5 : (fun W => LX w X (.slice p X.segs.length c) W ∧ W.cell? ⟨w3.heap.size, 0, none⟩ = some (.int .u8 (cc.toNat : Int))) w5 := ⟨h1'.1.below hb5, by rw [(below_cell hb5 (by simp)).1]; exact h1'.2⟩
          refine hK.out _ _ h5 (fun _ => ?_)
          clear hK K
          try simp only [Act.put, List.setIfInBounds_toArray, List.set_cons_zero, List.set_cons_succ]
          refine wpAnyH_takeAt (i := 13) (v := ?_) rfl (by kernel_rfl) (by kernel_rfl) (by kernel_rfl) (fun _ _ _ h => h) (Or.inl ⟨by rfl, ?_⟩) h5 ?_
          rotate_left 1
          · intro w' hS; clear hS
            go_simp <;> with_reducible rfl
          try simp only [Act.put, List.setIfInBounds_toArray, List.set_cons_zero, List.set_cons_succ]
          refine wpAnyH_takeAt (i := 14) (v := ?_) rfl (by kernel_rfl) (by kernel_rfl) (by kernel_rfl) (fun _ _ _ h => h) (Or.inl ⟨by rfl, ?_⟩) h5 ?_
          rotate_left 1
          · intro w' hS; clear hS
            go_simp <;> with_reducible rfl
          try simp only [Act.put, List.setIfInBounds_toArray, List.set_cons_zero, List.set_cons_succ]
          refine wpAnyH_takeAt (i := 15) (v := ?_) rfl (by kernel_rfl) (by kernel_rfl) (by kernel_rfl) (fun _ _ _ h => h) (Or.inl ⟨by rfl, ?_⟩) h5 ?_
          rotate_left 1
          · intro w' hS; clear hS
            go_simp <;> with_reducible rfl
          try simp only [Act.put, List.setIfInBounds_toArray, List.set_cons_zero, List.set_cons_succ]
          refine wpAnyH_ready (rs := [16]) (by kernel_rfl) (by simp) (allReady_at rfl (fun K hK => ?_))
          go_simp
          have h6 : (fun W => LX w X (.slice p X.segs.length c) W ∧ W.cell? ⟨w3.heap.size, 0, none⟩ = some (.int .u8 (cc.toNat : Int))) _ := ⟨h5.1.alloc (.cells Z3 25), by rw [(below_cell ((Below.refl _ _).alloc (Nat.le_refl _) _) (ltE' h5.2)).1]; exact h5.2⟩
          refine hK.out _ _ h6 (fun _ => ?_)
          clear hK K
          try simp only [Act.put, List.setIfInBounds_toArray, List.set_cons_zero, List.set_cons_succ]
          have hz := heap_alloc_new w5 (.cells Z3 25)
          have hS6 := hS5.below ((Below.refl _ w5).alloc (Nat.le_refl _) (.cells Z3 25))
          refine wpAnyH_ready (rs := [17]) (by kernel_rfl) (by simp) (allReady_at rfl (fun K hK => ?_))
          rw [if_pos (by rfl)]
          refine wp_store_row 25 _ _ rfl (w5.heap.size) _ rfl rfl _ _ hz (by kernel_rfl) rfl (by kernel_rfl) ?_
          have hT := TwoB.put (X := X) (Y := X) h6.1 hz hS6 (by have h1 := (Array.getElem?_eq_some_iff.1 HL3.out.box).1; first | omega | (have h2 := hb5.size; simp at h2 ⊢; omega))
          have h9 : (fun W => LX w X (.slice p X.segs.length c) W ∧ W.cell? ⟨w3.heap.size, 0, none⟩ = some (.int .u8 (cc.toNat : Int))) _ := ⟨hT.x, by rw [cell_other_row _ _ _ _ _ (by first | omega | (have := hb5.size; simp at this ⊢; omega))]; exact h6.2⟩
          refine hK.out _ _ h9 (fun _ => ?_)
          clear hK K
          try simp only [Act.put, List.setIfInBounds_toArray, List.set_cons_zero, List.set_cons_succ]
          refine wpAnyH_takeAt (i := 18) (v := ?_) rfl (by kernel_rfl) (by kernel_rfl) (by kernel_rfl) (fun _ _ _ h => h) (Or.inl ⟨by rfl, ?_⟩) h9 ?_
          rotate_left 1
          · intro w' hS; clear hS
            go_simp <;> with_reducible rfl
          try simp only [Act.put, List.setIfInBounds_toArray, List.set_cons_zero, List.set_cons_succ]
          refine wpAnyH_done (by kernel_rfl) ?_ _
          refine NoPanic.normal ?_
          refine gen_world (TwoB w _ X X (.slice p X.segs.length c) (.slice p5 X.segs.length c5)) hT ?_
          intro w8 hT8
          clear hT h9
          obtain ⟨⟨a0, a1, a2⟩, _⟩ := three hT8.x.box
          obtain ⟨⟨d0, d1, d2⟩, _⟩ := three hT8.y
          have HSm := hideE (same_self X (.slice p X.segs.length c) (.slice p5 X.segs.length c5) (by omega) _ hT8.x.s hT8.s)
          unfold prgV at HSm
          have HT := hideE hT8
          clear hT8
          go_wp2_with fail
          refine HSm.out.mono ?_
          rintro e w6 ⟨rfl, hb6⟩
          have hb := HT.out.x.low.trans (hb6.mono HT.out.x.low.size)
          go_wp2_with (go_at_call 12; refine (fixed6_any _).mono ?_; rintro e w7 ⟨rfl, hb7⟩)
          go_ret
          exact ⟨rfl, hb.trans (hb7.mono hb.size)⟩
        · go_simp
          have h2 : (fun W => LX w X (.slice p X.segs.length c) W ∧ W.cell? ⟨w3.heap.size, 0, none⟩ = some (.int .u8 (cc.toNat : Int))) _ := ⟨h1'.1.alloc (.cells Z3 25), by rw [(below_cell ((Below.refl _ _).alloc (Nat.le_refl _) _) (ltE' h1'.2)).1]; exact h1'.2⟩
          refine hK.out _ _ h2 (fun _ => ?_)
          clear hK K
          try simp only [Act.put, List.setIfInBounds_toArray, List.set_cons_zero, List.set_cons_succ]
          refine wpAnyH_ready (rs := [12]) (by kernel_rfl) (by simp) (allReady_at rfl (fun K hK => ?_))
          go_simp
          refine (parse_any O hOl _).mono ?_
          rintro e w5 ⟨v5, he, hS5, hb5⟩
          rw [HO.out.2] at hS5
          rw [HO.out.1, HO.out.2] at he
          obtain ⟨p5, c5, rfl, _⟩ := hS5.len
          unfold prgV at he
          subst he
          dsimp only
          have h5 : (fun W => LX w X (.slice p X.segs.length c) W ∧ W.cell? ⟨w3.heap.size, 0, none⟩ = some (.int .u8 (cc.toNat : Int))) w5 := ⟨h2.1.below hb5, by rw [(below_cell hb5 (by simp; omega)).1]; exact h2.2⟩
          have hz : w5.heap[w3.heap.size + 1]? = some (.cells Z3 25 (0, 0)) := keptN hb5 (by rw [show w3.heap.size + 1 = (World.alloc w3.drew (.cells #[.int .u8 (cc.toNat : Int)] 5)).heap.size by simp]; exact heap_alloc_new _ _)
          refine hK.out _ _ h5 (fun _ => ?_)
          clear hK K
          try simp only [Act.put, List.setIfInBounds_toArray, List.set_cons_zero, List.set_cons_succ]
          refine wpAnyH_takeAt (i := 13) (v := ?_) rfl (by kernel_rfl) (by kernel_rfl) (by kernel_rfl) (fun _ _ _ h => h) (Or.inl ⟨by rfl, ?_⟩) h5 ?_
          rotate_left 1
          · intro w' hS; clear hS
            go_simp <;> with_reducible rfl
          try simp only [Act.put, List.setIfInBounds_toArray, List.set_cons_zero, List.set_cons_succ]
          refine wpAnyH_takeAt (i := 14) (v := ?_) rfl (by kernel_rfl) (by kernel_rfl) (by kernel_rfl) (fun _ _ _ h => h) (Or.inl ⟨by rfl, ?_⟩) h5 ?_
          rotate_left 1
          · intro w' hS; clear hS
            go_simp <;> with_reducible rfl
          try simp only [Act.put, List.setIfInBounds_toArray, List.set_cons_zero, List.set_cons_succ]
          refine wpAnyH_takeAt (i := 15) (v := ?_) rfl (by kernel_rfl) (by kernel_rfl) (by kernel_rfl) (fun _ _ _ h => h) (Or.inl ⟨by rfl, ?_⟩) h5 ?_
          rotate_left 1
          · intro w' hS; clear hS
            go_simp <;> with_reducible rfl
          try simp only [Act.put, List.setIfInBounds_toArray, List.set_cons_zero, List.set_cons_succ]
          refine wpAnyH_ready (rs := [17]) (by kernel_rfl) (by simp) (allReady_at rfl (fun K hK => ?_))
          rw [if_pos (by rfl)]
          refine wp_store_row 25 _ _ rfl (w3.heap.size + 1) _ rfl rfl _ _ hz (by kernel_rfl) rfl (by kernel_rfl) ?_
          have hT := TwoB.put (X := X) (Y := X) h5.1 hz hS5 (by have h1 := (Array.getElem?_eq_some_iff.1 HL3.out.box).1; first | omega | (have h2 := hb5.size; simp at h2 ⊢; omega))
          have h9 : (fun W => LX w X (.slice p X.segs.length c) W ∧ W.cell? ⟨w3.heap.size, 0, none⟩ = some (.int .u8 (cc.toNat : Int))) _ := ⟨hT.x, by rw [cell_other_row _ _ _ _ _ (by first | omega | (have := hb5.size; simp at this ⊢; omega))]; exact h5.2⟩
          refine hK.out _ _ h9 (fun _ => ?_)
          clear hK K
          try simp only [Act.put, List.setIfInBounds_toArray, List.set_cons_zero, List.set_cons_succ]
          refine wpAnyH_takeAt (i := 18) (v := ?_) rfl (by kernel_rfl) (by kernel_rfl) (by kernel_rfl) (fun _ _ _ h => h) (Or.inl ⟨by rfl, ?_⟩) h9 ?_
          rotate_left 1
          · intro w' hS; clear hS
            go_simp <;> with_reducible rfl
          try simp only [Act.put, List.setIfInBounds_toArray, List.set_cons_zero, List.set_cons_succ]
          refine wpAnyH_done (by kernel_rfl) ?_ _
          refine NoPanic.normal ?_
          refine gen_world (TwoB w _ X X (.slice p X.segs.length c) (.slice p5 X.segs.length c5)) hT ?_
          intro w8 hT8
          clear hT h9
          obtain ⟨⟨a0, a1, a2⟩, _⟩ := three hT8.x.box
          obtain ⟨⟨d0, d1, d2⟩, _⟩ := three hT8.y
          have HSm := hideE (same_self X (.slice p X.segs.length c) (.slice p5 X.segs.length c5) (by omega) _ hT8.x.s hT8.s)
          unfold prgV at HSm
          have HT := hideE hT8
          clear hT8
          go_wp2_with fail
          refine HSm.out.mono ?_
          rintro e w6 ⟨rfl, hb6⟩
          have hb := HT.out.x.low.trans (hb6.mono HT.out.x.low.size)
          go_wp2_with (go_at_call 12; refine (fixed6_any _).mono ?_; rintro e w7 ⟨rfl, hb7⟩)
          go_ret
          exact ⟨rfl, hb.trans (hb7.mono hb.size)⟩
      · go_simp
        have h1 := h0.alloc (.cells Z3 25)
        refine hK.out _ _ h1 (fun _ => ?_)
        clear hK K
        try simp only [Act.put, List.setIfInBounds_toArray, List.set_cons_zero, List.set_cons_succ]
        refine wpAnyH_ready (rs := [4]) (by kernel_rfl) (by simp) (allReady_at rfl (fun K hK => ?_))
        go_simp
        have h2 := h1.alloc (.cells #[.int .u8 (cc.toNat : Int)] 5)
        refine hK.out _ _ h2 (fun _ => ?_)
        clear hK K
        try simp only [Act.put, List.setIfInBounds_toArray, List.set_cons_zero, List.set_cons_succ]
        refine wpAnyH_more (S' := (fun W => LX w X (.slice p X.segs.length c) W ∧ W.cell? ⟨w3.heap.size + 1, 0, none⟩ = some (.int .u8 (cc.toNat : Int)))) (fun _ h => h.1) _ _ _ _ ?_
        have h2' : (fun W => LX w X (.slice p X.segs.length c) W ∧ W.cell? ⟨w3.heap.size + 1, 0, none⟩ = some (.int .u8 (cc.toNat : Int))) _ := ⟨h2, by first | exact alloc_cell _ _ _ | (have := alloc_cell (World.alloc w3.drew (.cells Z3 25)) (.int .u8 (cc.toNat : Int)) 5; rwa [show (World.alloc w3.drew (.cells Z3 25)).heap.size = w3.heap.size + 1 by simp] at this)⟩
        refine wpAnyH_takeAt (i := 5) (v := .string ⟨#[cc]⟩) rfl (by kernel_rfl) (by kernel_rfl) (by kernel_rfl) (fun _ _ _ h => h) (Or.inl ⟨by rfl, ?_⟩) h2' ?_
        · intro w' hS; have y0 := byte_conv (w3.heap.size + 1) cc w' hS.2; clear hS
          go_simp
        try simp only [Act.put, List.setIfInBounds_toArray, List.set_cons_zero, List.set_cons_succ]
        refine wpAnyH_takeAt (i := 6) (v := .string ⟨AC.toArray⟩) rfl (by kernel_rfl) (by kernel_rfl) (by kernel_rfl) (fun _ _ _ h => h) (Or.inl ⟨by rfl, ?_⟩) h2' ?_
        · intro w' hS; clear hS
          go_simp
        try simp only [Act.put, List.setIfInBounds_toArray, List.set_cons_zero, List.set_cons_succ]
        refine wpAnyH_takeAt (i := 11) (v := .string ⟨O.toArray⟩) rfl (by kernel_rfl) (by kernel_rfl) (by kernel_rfl) (fun _ _ _ h => h) (Or.inl ⟨by rfl, ?_⟩) h2' ?_
        · intro w' hS; clear hS
          go_simp
        try simp only [Act.put, List.setIfInBounds_toArray, List.set_cons_zero, List.set_cons_succ]
        refine wpAnyH_ready (rs := [12]) (by kernel_rfl) (by simp) (allReady_at rfl (fun K hK => ?_))
        go_simp
        refine (parse_any O hOl _).mono ?_
        rintro e w5 ⟨v5, he, hS5, hb5⟩
        rw [HO.out.2] at hS5
        rw [HO.out.1, HO.out.2] at he
        obtain ⟨p5, c5, rfl, _⟩ := hS5.len
        unfold prgV at he
        subst he
        dsimp only
        have h5 : (fun W => LX w X (.slice p X.segs.length c) W ∧ W.cell? ⟨w3.heap.size + 1, 0, none⟩ = some (.int .u8 (cc.toNat : Int))) w5 := ⟨h2'.1.below hb5, by rw [(below_cell hb5 (by simp; try omega)).1]; exact h2'.2⟩
        have hz : w5.heap[w3.heap.size]? = some (.cells Z3 25 (0, 0)) := keptN hb5 (by show ((World.alloc w3 _).alloc _).heap[w3.heap.size]? = _; rw [Below.heap_alloc _ _ _ (by simp)]; exact heap_alloc_new w3 _)
        refine hK.out _ _ h5 (fun _ => ?_)
        clear hK K
        try simp only [Act.put, List.setIfInBounds_toArray, List.set_cons_zero, List.set_cons_succ]
        refine wpAnyH_takeAt (i := 13) (v := ?_) rfl (by kernel_rfl) (by kernel_rfl) (by kernel_rfl) (fun _ _ _ h => h) (Or.inl ⟨by rfl, ?_⟩) h5 ?_
        rotate_left 1
        · intro w' hS; clear hS
          go_simp <;> with_reducible rfl
        try simp only [Act.put, List.setIfInBounds_toArray, List.set_cons_zero, List.set_cons_succ]
        refine wpAnyH_takeAt (i := 14) (v := ?_) rfl (by kernel_rfl) (by kernel_rfl) (by kernel_rfl) (fun _ _ _ h => h) (Or.inl ⟨by rfl, ?_⟩) h5 ?_
        rotate_left 1
        · intro w' hS; clear hS
          go_simp <;> with_reducible rfl
        try simp only [Act.put, List.setIfInBounds_toArray, List.set_cons_zero, List.set_cons_succ]
        refine wpAnyH_takeAt (i := 15) (v := ?_) rfl (by kernel_rfl) (by kernel_rfl) (by kernel_rfl) (fun _ _ _ h => h) (Or.inl ⟨by rfl, ?_⟩) h5 ?_
        rotate_left 1
        · intro w' hS; clear hS
          go_simp <;> with_reducible rfl
        try simp only [Act.put, List.setIfInBounds_toArray, List.set_cons_zero, List.set_cons_succ]
        refine wpAnyH_ready (rs := [17]) (by kernel_rfl) (by simp) (allReady_at rfl (fun K hK => ?_))
        rw [if_pos (by rfl)]
        refine wp_store_row 25 _ _ rfl (w3.heap.size) _ rfl rfl _ _ hz (by kernel_rfl) rfl (by kernel_rfl) ?_
        have hT := TwoB.put (X := X) (Y := X) h5.1 hz hS5 (by have h1 := (Array.getElem?_eq_some_iff.1 HL3.out.box).1; first | omega | (have h2 := hb5.size; simp at h2 ⊢; omega))
        have h9 : (fun W => LX w X (.slice p X.segs.length c) W ∧ W.cell? ⟨w3.heap.size + 1, 0, none⟩ = some (.int .u8 (cc.toNat : Int))) _ := ⟨hT.x, by rw [cell_other_row _ _ _ _ _ (by first | omega | (have := hb5.size; simp at this ⊢; omega))]; exact h5.2⟩
        refine hK.out _ _ h9 (fun _ => ?_)
        clear hK K
        try simp only [Act.put, List.setIfInBounds_toArray, List.set_cons_zero, List.set_cons_succ]
        refine wpAnyH_takeAt (i := 18) (v := ?_) rfl (by kernel_rfl) (by kernel_rfl) (by kernel_rfl) (fun _ _ _ h => h) (Or.inl ⟨by rfl, ?_⟩) h9 ?_
        rotate_left 1
        · intro w' hS; clear hS
          go_simp <;> with_reducible rfl
        try simp only [Act.put, List.setIfInBounds_toArray, List.set_cons_zero, List.set_cons_succ]
        refine wpAnyH_done (by kernel_rfl) ?_ _
        refine NoPanic.normal ?_
        refine gen_world (TwoB w _ X X (.slice p X.segs.length c) (.slice p5 X.segs.length c5)) hT ?_
        intro w8 hT8
        clear hT h9
        obtain ⟨⟨a0, a1, a2⟩, _⟩ := three hT8.x.box
        obtain ⟨⟨d0, d1, d2⟩, _⟩ := three hT8.y
        have HSm := hideE (same_self X (.slice p X.segs.length c) (.slice p5 X.segs.length c5) (by omega) _ hT8.x.s hT8.s)
        unfold prgV at HSm
        have HT := hideE hT8
        clear hT8
        go_wp2_with fail
        refine HSm.out.mono ?_
        rintro e w6 ⟨rfl, hb6⟩
        have hb := HT.out.x.low.trans (hb6.mono HT.out.x.low.size)
        go_wp2_with (go_at_call 12; refine (fixed6_any _).mono ?_; rintro e w7 ⟨rfl, hb7⟩)
        go_ret
        exact ⟨rfl, hb.trans (hb7.mono hb.size)⟩
    · obtain ⟨k, hk⟩ : ∃ k : Nat, k = 46 + r6 := ⟨_, rfl⟩
      have hkv : 46 + (r6 : Int) = (k : Int) := by omega
      have hkc : 7 ≤ k ∧ k < 16 ∨ 32 ≤ k ∧ k < 36 ∨ 46 ≤ k ∧ k < 52 := by omega
      obtain ⟨O, hO⟩ : ∃ O, O = S.take k ++ ([cc] ++ S.drop (k + 1)) := ⟨_, rfl⟩
      have hoo := Hoth.out k hkc
      rw [← hO] at hoo
      have HO := hideE hoo
      have hOl : O.length ≤ 281474976710656 := by rw [hO]; simp; omega
      obtain ⟨A, hA⟩ : ∃ A, A = S.take k := ⟨_, rfl⟩
      obtain ⟨D, hD⟩ : ∃ D, D = S.drop (k + 1) := ⟨_, rfl⟩
      obtain ⟨AC, hAC⟩ : ∃ AC, AC = A ++ [cc] := ⟨_, rfl⟩
      have hcat1 : (⟨A.toArray⟩ : ByteArray) ++ ⟨#[cc]⟩ = ⟨AC.toArray⟩ := by rw [hAC]; exact cat_lists _ _
      have hcat2 : (⟨AC.toArray⟩ : ByteArray) ++ ⟨D.toArray⟩ = ⟨O.toArray⟩ := by rw [cat_lists, hO, hAC, hA, hD, List.append_assoc]
      have hext : (⟨S.toArray⟩ : ByteArray).extract 0 k = ⟨A.toArray⟩ := by rw [hA]; exact ext_to S k
      have hext2 : (⟨S.toArray⟩ : ByteArray).extract (k + 1) S.length = ⟨D.toArray⟩ := by rw [hD]; exact drop_ext S (k + 1) (by omega)
      have hl1 : ¬ (9223372036854775807 < A.length + 1) := by rw [hA, List.length_take]; omega
      have hl2 : ¬ (9223372036854775807 < AC.length + D.length) := by rw [hAC, hA, hD, List.length_append, List.length_take, List.length_drop]; simp; omega
      have hk0 : (0 : Int) ≤ (k : Int) := by omega
      have hkS : (k : Int) ≤ (S.length : Int) := by omega
      have hk1 : (0 : Int) ≤ (k : Int) + 1 := by omega
      have hk1S : (k : Int) + 1 ≤ (S.length : Int) := by omega
      have hwk1 : IntKind.i64.wrap ((k : Int) + 1) = (k : Int) + 1 := wrE (by omega) (by omega)
      clear hO hoo hkc hA hD hAC hk
      go_wp2_with fail
      have h3 := HL3.out.below (Below.refl _ w3).drew
      refine wp_region_noPanic ?_
      refine wp_region_held_drew (S := LX w X (.slice p X.segs.length c)) (by kernel_rfl) h3 (fun h0 => ?_)
      refine wpAnyH_takeAt (i := 0) (v := ?_) rfl (by kernel_rfl) (by kernel_rfl) (by kernel_rfl) (fun _ _ _ h => h) (Or.inl ⟨by rfl, ?_⟩) h0 ?_
      rotate_left 1
      · intro w' hS; clear hS
        go_simp <;> with_reducible rfl
      try simp only [Act.put, List.setIfInBounds_toArray, List.set_cons_zero, List.set_cons_succ]
      refine wpAnyH_takeAt (i := 1) (v := ?_) rfl (by kernel_rfl) (by kernel_rfl) (by kernel_rfl) (fun _ _ _ h => h) (Or.inl ⟨by rfl, ?_⟩) h0 ?_
      rotate_left 1
      · intro w' hS; clear hS
        go_simp <;> with_reducible rfl
      try simp only [Act.put, List.setIfInBounds_toArray, List.set_cons_zero, List.set_cons_succ]
      refine wpAnyH_takeAt (i := 2) (v := .string ⟨A.toArray⟩) rfl (by kernel_rfl) (by kernel_rfl) (by kernel_rfl) (fun _ _ _ h => h) (Or.inl ⟨by rfl, ?_⟩) h0 ?_
      · intro w' hS; clear hS
        go_simp
      try simp only [Act.put, List.setIfInBounds_toArray, List.set_cons_zero, List.set_cons_succ]
      refine wpAnyH_takeAt (i := 3) (v := ?_) rfl (by kernel_rfl) (by kernel_rfl) (by kernel_rfl) (fun _ _ _ h => h) (Or.inl ⟨by rfl, ?_⟩) h0 ?_
      rotate_left 1
      · intro w' hS; clear hS
        go_simp <;> with_reducible rfl
      try simp only [Act.put, List.setIfInBounds_toArray, List.set_cons_zero, List.set_cons_succ]
      refine wpAnyH_takeAt (i := 7) (v := ?_) rfl (by kernel_rfl) (by kernel_rfl) (by kernel_rfl) (fun _ _ _ h => h) (Or.inl ⟨by rfl, ?_⟩) h0 ?_
      rotate_left 1
      · intro w' hS; clear hS
        go_simp <;> with_reducible rfl
      try simp only [Act.put, List.setIfInBounds_toArray, List.set_cons_zero, List.set_cons_succ]
      refine wpAnyH_takeAt (i := 8) (v := ?_) rfl (by kernel_rfl) (by kernel_rfl) (by kernel_rfl) (fun _ _ _ h => h) (Or.inl ⟨by rfl, ?_⟩) h0 ?_
      rotate_left 1
      · intro w' hS; clear hS
        go_simp <;> with_reducible rfl
      try simp only [Act.put, List.setIfInBounds_toArray, List.set_cons_zero, List.set_cons_succ]
      refine wpAnyH_takeAt (i := 9) (v := .int .i64 ((k : Int) + 1)) rfl (by kernel_rfl) (by kernel_rfl) (by kernel_rfl) (fun _ _ _ h => h) (Or.inl ⟨by rfl, ?_⟩) h0 ?_
      · intro w' hS; clear hS
        go_simp
      try simp only [Act.put, List.setIfInBounds_toArray, List.set_cons_zero, List.set_cons_succ]
      refine wpAnyH_takeAt (i := 10) (v := .string ⟨D.toArray⟩) rfl (by kernel_rfl) (by kernel_rfl) (by kernel_rfl) (fun _ _ _ h => h) (Or.inl ⟨by rfl, ?_⟩) h0 ?_
      · intro w' hS; clear hS
        go_simp
      try simp only [Act.put, List.setIfInBounds_toArray, List.set_cons_zero, List.set_cons_succ]
      refine wpAnyH_ready (rs := [4, 16]) (by kernel_rfl) (by simp) (AllReadyH.cons (at_drop rfl) (fun K hK => ?_) (allReady_at rfl (fun K hK => ?_)))
      · go_simp
        have h1 := h0.alloc (.cells #[.int .u8 (cc.toNat : Int)] 5)
        refine hK.out _ _ h1 (fun _ => ?_)
        clear hK K
        try simp only [Act.put, List.setIfInBounds_toArray, List.set_cons_zero, List.set_cons_succ]
        refine wpAnyH_more (S' := (fun W => LX w X (.slice p X.segs.length c) W ∧ W.cell? ⟨w3.heap.size, 0, none⟩ = some (.int .u8 (cc.toNat : Int)))) (fun _ h => h.1) _ _ _ _ ?_
        have h1' : (fun W => LX w X (.slice p X.segs.length c) W ∧ W.cell? ⟨w3.heap.size, 0, none⟩ = some (.int .u8 (cc.toNat : Int))) _ := ⟨h1, by first | exact alloc_cell _ _ _ | (have := alloc_cell (World.alloc w3.drew (.cells Z3 25)) (.int .u8 (cc.toNat : Int)) 5; rwa [show (World.alloc w3.drew (.cells Z3 25)).heap.size = w3.heap.size + 1 by simp] at this)⟩
        refine wpAnyH_takeAt (i := 5) (v := .string ⟨#[cc]⟩) rfl (by kernel_rfl) (by kernel_rfl) (by kernel_rfl) (fun _ _ _ h => h) (Or.inl ⟨by rfl, ?_⟩) h1' ?_
        · intro w' hS; have y0 := byte_conv (w3.heap.size) cc w' hS.2; clear hS
          go_simp
        try simp only [Act.put, List.setIfInBounds_toArray, List.set_cons_zero, List.set_cons_succ]
        refine wpAnyH_takeAt (i := 6) (v := .string ⟨AC.toArray⟩) rfl (by kernel_rfl) (by kernel_rfl) (by kernel_rfl) (fun _ _ _ h => h) (Or.inl ⟨by rfl, ?_⟩) h1' ?_
        · intro w' hS; clear hS
          go_simp
        try simp only [Act.put, List.setIfInBounds_toArray, List.set_cons_zero, List.set_cons_succ]
        refine wpAnyH_takeAt (i := 11) (v := .string ⟨O.toArray⟩) rfl (by kernel_rfl) (by kernel_rfl) (by kernel_rfl) (fun _ _ _ h => h) (Or.inl ⟨by rfl, ?_⟩) h1' ?_
        · intro w' hS; clear hS
          go_simp
        try simp only [Act.put, List.setIfInBounds_toArray, List.set_cons_zero, List.set_cons_succ]
        refine wpAnyH_ready (rs := [12, 16]) (by kernel_rfl) (by simp) (AllReadyH.cons (at_drop rfl) (fun K hK => ?_) (allReady_at rfl (fun K hK => ?_)))
        · go_simp
          refine (parse_any O hOl _).mono ?_
          rintro e w5 ⟨v5, he, hS5, hb5⟩
          rw [HO.out.2] at hS5
          rw [HO.out.1, HO.out.2] at he
          obtain ⟨p5, c5, rfl, _⟩ := hS5.len
          unfold prgV at he
          subst he
          dsimp only
          have h5 : (fun W => LX w X (.slice p X.segs.length c) W ∧ W.cell? ⟨w3.heap.size, 0, none⟩ = some (.int .u8 (cc.toNat : Int))) w5 := ⟨h1'.1.below hb5, by rw [(below_cell hb5 (by simp)).1]; exact h1'.2⟩
          refine hK.out _ _ h5 (fun _ => ?_)
          clear hK K
          try simp only [Act.put, List.setIfInBounds_toArray, List.set_cons_zero, List.set_cons_succ]
          refine wpAnyH_takeAt (i := 13) (v := ?_) rfl (by kernel_rfl) (by kernel_rfl) (by kernel_rfl) (fun _ _ _ h => h) (Or.inl ⟨by rfl, ?_⟩) h5 ?_
          rotate_left 1
          · intro w' hS; clear hS
            go_simp <;> with_reducible rfl
          try simp only [Act.put, List.setIfInBounds_toArray, List.set_cons_zero, List.set_cons_succ]
          refine wpAnyH_takeAt (i := 14) (v := ?_) rfl (by kernel_rfl) (by kernel_rfl) (by kernel_rfl) (fun _ _ _ h => h) (Or.inl ⟨by rfl, ?_⟩) h5 ?_
          rotate_left 1
          · intro w' hS; clear hS
            go_simp <;> with_reducible rfl
          try simp only [Act.put, List.setIfInBounds_toArray, List.set_cons_zero, List.set_cons_succ]
          refine wpAnyH_takeAt (i := 15) (v := ?_) rfl (by kernel_rfl) (by kernel_rfl) (by kernel_rfl) (fun _ _ _ h => h) (Or.inl ⟨by rfl, ?_⟩) h5 ?_
          rotate_left 1
          · intro w' hS; clear hS
            go_simp <;> with_reducible rfl
          try simp only [Act.put, List.setIfInBounds_toArray, List.set_cons_zero, List.set_cons_succ]
          refine wpAnyH_ready (rs := [16]) (by kernel_rfl) (by simp) (allReady_at rfl (fun K hK => ?_))
          go_simp
          have h6 : (fun W => LX w X (.slice p X.segs.length c) W ∧ W.cell? ⟨w3.heap.size, 0, none⟩ = some (.int .u8 (cc.toNat : Int))) _ := ⟨h5.1.alloc (.cells Z3 25), by rw [(below_cell ((Below.refl _ _).alloc (Nat.le_refl _) _) (ltE' h5.2)).1]; exact h5.2⟩
          refine hK.out _ _ h6 (fun _ => ?_)
          clear hK K
          try simp only [Act.put, List.setIfInBounds_toArray, List.set_cons_zero, List.set_cons_succ]
          have hz := heap_alloc_new w5 (.cells Z3 25)
          have hS6 := hS5.below ((Below.refl _ w5).alloc (Nat.le_refl _) (.cells Z3 25))
          refine wpAnyH_ready (rs := [17]) (by kernel_rfl) (by simp) (allReady_at rfl (fun K hK => ?_))
          rw [if_pos (by rfl)]
          refine wp_store_row 25 _ _ rfl (w5.heap.size) _ rfl rfl _ _ hz (by kernel_rfl) rfl (by kernel_rfl) ?_
          have hT := TwoB.put (X := X) (Y := X) h6.1 hz hS6 (by have h1 := (Array.getElem?_eq_some_iff.1 HL3.out.box).1; first | omega | (have h2 := hb5.size; simp at h2 ⊢; omega))
          have h9 : (fun W => LX w X (.slice p X.segs.length c) W ∧ W.cell? ⟨w3.heap.size, 0, none⟩ = some (.int .u8 (cc.toNat : Int))) _ := ⟨hT.x, by rw [cell_other_row _ _ _ _ _ (by first | omega | (have := hb5.size; simp at this ⊢; omega))]; exact h6.2⟩
          refine hK.out _ _ h9 (fun _ => ?_)
          clear hK K
          try simp only [Act.put, List.setIfInBounds_toArray, List.set_cons_zero, List.set_cons_succ]
          refine wpAnyH_takeAt (i := 18) (v := ?_) rfl (by kernel_rfl) (by kernel_rfl) (by kernel_rfl) (fun _ _ _ h => h) (Or.inl ⟨by rfl, ?_⟩) h9 ?_
          rotate_left 1
          · intro w' hS; clear hS
            go_simp <;> with_reducible rfl
          try simp only [Act.put, List.setIfInBounds_toArray, List.set_cons_zero, List.set_cons_succ]
          refine wpAnyH_done (by kernel_rfl) ?_ _
          refine NoPanic.normal ?_
          refine gen_world (TwoB w _ X X (.slice p X.segs.length c) (.slice p5 X.segs.length c5)) hT ?_
          intro w8 hT8
          clear hT h9
          obtain ⟨⟨a0, a1, a2⟩, _⟩ := three hT8.x.box
          obtain ⟨⟨d0, d1, d2⟩, _⟩ := three hT8.y
          have HSm := hideE (same_self X (.slice p X.segs.length c) (.slice p5 X.segs.length c5) (by omega) _ hT8.x.s hT8.s)
          unfold prgV at HSm
          have HT := hideE hT8
          clear hT8
          go_wp2_with fail
          refine HSm.out.mono ?_
          rintro e w6 ⟨rfl, hb6⟩
          have hb := HT.out.x.low.trans (hb6.mono HT.out.x.low.size)
          go_wp2_with (go_at_call 12; refine (fixed6_any _).mono ?_; rintro e w7 ⟨rfl, hb7⟩)
          go_ret
          exact ⟨rfl, hb.trans (hb7.mono hb.size)⟩
        · go_simp
          have h2 : (fun W => LX w X (.slice p X.segs.length c) W ∧ W.cell? ⟨w3.heap.size, 0, none⟩ = some (.int .u8 (cc.toNat : Int))) _ := ⟨h1'.1.alloc (.cells Z3 25), by rw [(below_cell ((Below.refl _ _).alloc (Nat.le_refl _) _) (ltE' h1'.2)).1]; exact h1'.2⟩
          refine hK.out _ _ h2 (fun _ => ?_)
          clear hK K
          try simp only [Act.put, List.setIfInBounds_toArray, List.set_cons_zero, List.set_cons_succ]
          refine wpAnyH_ready (rs := [12]) (by kernel_rfl) (by simp) (allReady_at rfl (fun K hK => ?_))
          go_simp
          refine (parse_any O hOl _).mono ?_
          rintro e w5 ⟨v5, he, hS5, hb5⟩
          rw [HO.out.2] at hS5
          rw [HO.out.1, HO.out.2] at he
          obtain ⟨p5, c5, rfl, _⟩ := hS5.len
          unfold prgV at he
          subst he
          dsimp only
          have h5 : (fun W => LX w X (.slice p X.segs.length c) W ∧ W.cell? ⟨w3.heap.size, 0, none⟩ = some (.int .u8 (cc.toNat : Int))) w5 := ⟨h2.1.below hb5, by rw [(below_cell hb5 (by simp; omega)).1]; exact h2.2⟩
          have hz : w5.heap[w3.heap.size + 1]? = some (.cells Z3 25 (0, 0)) := keptN hb5 (by rw [show w3.heap.size + 1 = (World.alloc w3.drew (.cells #[.int .u8 (cc.toNat : Int)] 5)).heap.size by simp]; exact heap_alloc_new _ _)
          refine hK.out _ _ h5 (fun _ => ?_)
          clear hK K
          try simp only [Act.put, List.setIfInBounds_toArray, List.set_cons_zero, List.set_cons_succ]
          refine wpAnyH_takeAt (i := 13) (v := ?_) rfl (by kernel_rfl) (by kernel_rfl) (by kernel_rfl) (fun _ _ _ h => h) (Or.inl ⟨by rfl, ?_⟩) h5 ?_
          rotate_left 1
          · intro w' hS; clear hS
            go_simp <;> with_reducible rfl
          try simp only [Act.put, List.setIfInBounds_toArray, List.set_cons_zero, List.set_cons_succ]
          refine wpAnyH_takeAt (i := 14) (v := ?_) rfl (by kernel_rfl) (by kernel_rfl) (by kernel_rfl) (fun _ _ _ h => h) (Or.inl ⟨by rfl, ?_⟩) h5 ?_
          rotate_left 1
          · intro w' hS; clear hS
            go_simp <;> with_reducible rfl
          try simp only [Act.put, List.setIfInBounds_toArray, List.set_cons_zero, List.set_cons_succ]
          refine wpAnyH_takeAt (i := 15) (v := ?_) rfl (by kernel_rfl) (by kernel_rfl) (by kernel_rfl) (fun _ _ _ h => h) (Or.inl ⟨by rfl, ?_⟩) h5 ?_
          rotate_left 1
          · intro w' hS; clear hS
            go_simp <;> with_reducible rfl
          try simp only [Act.put, List.setIfInBounds_toArray, List.set_cons_zero, List.set_cons_succ]
          refine wpAnyH_ready (rs := [17]) (by kernel_rfl) (by simp) (allReady_at rfl (fun K hK => ?_))
          rw [if_pos (by rfl)]
          refine wp_store_row 25 _ _ rfl (w3.heap.size + 1) _ rfl rfl _ _ hz (by kernel_rfl) rfl (by kernel_rfl) ?_
          have hT := TwoB.put (X := X) (Y := X) h5.1 hz hS5 (by have h1 := (Array.getElem?_eq_some_iff.1 HL3.out.box).1; first | omega | (have h2 := hb5.size; simp at h2 ⊢; omega))
          have h9 : (fun W => LX w X (.slice p X.segs.length c) W ∧ W.cell? ⟨w3.heap.size, 0, none⟩ = some (.int .u8 (cc.toNat : Int))) _ := ⟨hT.x, by rw [cell_other_row _ _ _ _ _ (by first | omega | (have := hb5.size; simp at this ⊢; omega))]; exact h5.2⟩
          refine hK.out _ _ h9 (fun _ => ?_)
          clear hK K
          try simp only [Act.put, List.setIfInBounds_toArray, List.set_cons_zero, List.set_cons_succ]
          refine wpAnyH_takeAt (i := 18) (v := ?_) rfl (by kernel_rfl) (by kernel_rfl) (by kernel_rfl) (fun _ _ _ h => h) (Or.inl ⟨by rfl, ?_⟩) h9 ?_
          rotate_left 1
          · intro w' hS; clear hS
            go_simp <;> with_reducible rfl
          try simp only [Act.put, List.setIfInBounds_toArray, List.set_cons_zero, List.set_cons_succ]
          refine wpAnyH_done (by kernel_rfl) ?_ _
          refine NoPanic.normal ?_
          refine gen_world (TwoB w _ X X (.slice p X.segs.length c) (.slice p5 X.segs.length c5)) hT ?_
          intro w8 hT8
          clear hT h9
          obtain ⟨⟨a0, a1, a2⟩, _⟩ := three hT8.x.box
          obtain ⟨⟨d0, d1, d2⟩, _⟩ := three hT8.y
          have HSm := hideE (same_self X (.slice p X.segs.length c) (.slice p5 X.segs.length c5) (by omega) _ hT8.x.s hT8.s)
          unfold prgV at HSm
          have HT := hideE hT8
          clear hT8
          go_wp2_with fail
          refine HSm.out.mono ?_
          rintro e w6 ⟨rfl, hb6⟩
          have hb := HT.out.x.low.trans (hb6.mono HT.out.x.low.size)
          go_wp2_with (go_at_call 12; refine (fixed6_any _).mono ?_; rintro e w7 ⟨rfl, hb7⟩)
          go_ret
          exact ⟨rfl, hb.trans (hb7.mono hb.size)⟩
      · go_simp
        have h1 := h0.alloc (.cells Z3 25)
        refine hK.out _ _ h1 (fun _ => ?_)
        clear hK K
        try simp only [Act.put, List.setIfInBounds_toArray, List.set_cons_zero, List.set_cons_succ]
        refine wpAnyH_ready (rs := [4]) (by kernel_rfl) (by simp) (allReady_at rfl (fun K hK => ?_))
        go_simp
        have h2 := h1.alloc (.cells #[.int .u8 (cc.toNat : Int)] 5)
        refine hK.out _ _ h2 (fun _ => ?_)
        clear hK K
        try simp only [Act.put, List.setIfInBounds_toArray, List.set_cons_zero, List.set_cons_succ]
        refine wpAnyH_more (S' := (fun W => LX w X (.slice p X.segs.length c) W ∧ W.cell? ⟨w3.heap.size + 1, 0, none⟩ = some (.int .u8 (cc.toNat : Int)))) (fun _ h => h.1) _ _ _ _ ?_
        have h2' : (fun W => LX w X (.slice p X.segs.length c) W ∧ W.cell? ⟨w3.heap.size + 1, 0, none⟩ = some (.int .u8 (cc.toNat : Int))) _ := ⟨h2, by first | exact alloc_cell _ _ _ | (have := alloc_cell (World.alloc w3.drew (.cells Z3 25)) (.int .u8 (cc.toNat : Int)) 5; rwa [show (World.alloc w3.drew (.cells Z3 25)).heap.size = w3.heap.size + 1 by simp] at this)⟩
        refine wpAnyH_takeAt (i := 5) (v := .string ⟨#[cc]⟩) rfl (by kernel_rfl) (by kernel_rfl) (by kernel_rfl) (fun _ _ _ h => h) (Or.inl ⟨by rfl, ?_⟩) h2' ?_
        · intro w' hS; have y0 := byte_conv (w3.heap.size + 1) cc w' hS.2; clear hS
          go_simp
        try simp only [Act.put, List.setIfInBounds_toArray, List.set_cons_zero, List.set_cons_succ]
        refine wpAnyH_takeAt (i := 6) (v := .string ⟨AC.toArray⟩) rfl (by kernel_rfl) (by kernel_rfl) (by kernel_rfl) (fun _ _ _ h => h) (Or.inl ⟨by rfl, ?_⟩) h2' ?_
        · intro w' hS; clear hS
          go_simp
        try simp only [Act.put, List.setIfInBounds_toArray, List.set_cons_zero, List.set_cons_succ]
        refine wpAnyH_takeAt (i := 11) (v := .string ⟨O.toArray⟩) rfl (by kernel_rfl) (by kernel_rfl) (by kernel_rfl) (fun _ _ _ h => h) (Or.inl ⟨by rfl, ?_⟩) h2' ?_
        · intro w' hS; clear hS
          go_simp
        try simp only [Act.put, List.setIfInBounds_toArray, List.set_cons_zero, List.set_cons_succ]
        refine wpAnyH_ready (rs := [12]) (by kernel_rfl) (by simp) (allReady_at rfl (fun K hK => ?_))
        go_simp
        refine (parse_any O hOl _).mono ?_
        rintro e w5 ⟨v5, he, hS5, hb5⟩
        rw [HO.out.2] at hS5
        rw [HO.out.1, HO.out.2] at he
        obtain ⟨p5, c5, rfl, _⟩ := hS5.len
        unfold prgV at he
        subst he
        dsimp only
        have h5 : (fun W => LX w X (.slice p X.segs.length c) W ∧ W.cell? ⟨w3.heap.size + 1, 0, none⟩ = some (.int .u8 (cc.toNat : Int))) w5 := ⟨h2'.1.below hb5, by rw [(below_cell hb5 (by simp; try omega)).1]; exact h2'.2⟩
        have hz : w5.heap[w3.heap.size]? = some (.cells Z3 25 (0, 0)) := keptN hb5 (by show ((World.alloc w3 _).alloc _).heap[w3.heap.size]? = _; rw [Below.heap_alloc _ _ _ (by simp)]; exact heap_alloc_new w3 _)
        refine hK.out _ _ h5 (fun _ => ?_)
        clear hK K
        try simp only [Act.put, List.setIfInBounds_toArray, List.set_cons_zero, List.set_cons_succ]
        refine wpAnyH_takeAt (i := 13) (v := ?_) rfl (by kernel_rfl) (by kernel_rfl) (by kernel_rfl) (fun _ _ _ h => h) (Or.inl ⟨by rfl, ?_⟩) h5 ?_
        rotate_left 1
        · intro w' hS; clear hS
          go_simp <;> with_reducible rfl
        try simp only [Act.put, List.setIfInBounds_toArray, List.set_cons_zero, List.set_cons_succ]
        refine wpAnyH_takeAt (i := 14) (v := ?_) rfl (by kernel_rfl) (by kernel_rfl) (by kernel_rfl) (fun _ _ _ h => h) (Or.inl ⟨by rfl, ?_⟩) h5 ?_
        rotate_left 1
        · intro w' hS; clear hS
          go_simp <;> with_reducible rfl
        try simp only [Act.put, List.setIfInBounds_toArray, List.set_cons_zero, List.set_cons_succ]
        refine wpAnyH_takeAt (i := 15) (v := ?_) rfl (by kernel_rfl) (by kernel_rfl) (by kernel_rfl) (fun _ _ _ h => h) (Or.inl ⟨by rfl, ?_⟩) h5 ?_
        rotate_left 1
        · intro w' hS; clear hS
          go_simp <;> with_reducible rfl
        try simp only [Act.put, List.setIfInBounds_toArray, List.set_cons_zero, List.set_cons_succ]
        refine wpAnyH_ready (rs := [17]) (by kernel_rfl) (by simp) (allReady_at rfl (fun K hK => ?_))
        rw [if_pos (by rfl)]
        refine wp_store_row 25 _ _ rfl (w3.heap.size) _ rfl rfl _ _ hz (by kernel_rfl) rfl (by kernel_rfl) ?_
        have hT := TwoB.put (X := X) (Y := X) h5.1 hz hS5 (by have h1 := (Array.getElem?_eq_some_iff.1 HL3.out.box).1; first | omega | (have h2 := hb5.size; simp at h2 ⊢; omega))
        have h9 : (fun W => LX w X (.slice p X.segs.length c) W ∧ W.cell? ⟨w3.heap.size + 1, 0, none⟩ = some (.int .u8 (cc.toNat : Int))) _ := ⟨hT.x, by rw [cell_other_row _ _ _ _ _ (by first | omega | (have := hb5.size; simp at this ⊢; omega))]; exact h5.2⟩
        refine hK.out _ _ h9 (fun _ => ?_)
        clear hK K
        try simp only [Act.put, List.setIfInBounds_toArray, List.set_cons_zero, List.set_cons_succ]
        refine wpAnyH_takeAt (i := 18) (v := ?_) rfl (by kernel_rfl) (by kernel_rfl) (by kernel_rfl) (fun _ _ _ h => h) (Or.inl ⟨by rfl, ?_⟩) h9 ?_
        rotate_left 1
        · intro w' hS; clear hS
          go_simp <;> with_reducible rfl
        try simp only [Act.put, List.setIfInBounds_toArray, List.set_cons_zero, List.set_cons_succ]
        refine wpAnyH_done (by kernel_rfl) ?_ _
        refine NoPanic.normal ?_
        refine gen_world (TwoB w _ X X (.slice p X.segs.length c) (.slice p5 X.segs.length c5)) hT ?_
        intro w8 hT8
        clear hT h9
        obtain ⟨⟨a0, a1, a2⟩, _⟩ := three hT8.x.box
        obtain ⟨⟨d0, d1, d2⟩, _⟩ := three hT8.y
        have HSm := hideE (same_self X (.slice p X.segs.length c) (.slice p5 X.segs.length c5) (by omega) _ hT8.x.s hT8.s)
        unfold prgV at HSm
        have HT := hideE hT8
        clear hT8
        go_wp2_with fail
        refine HSm.out.mono ?_
        rintro e w6 ⟨rfl, hb6⟩
        have hb := HT.out.x.low.trans (hb6.mono HT.out.x.low.size)
        go_wp2_with (go_at_call 12; refine (fixed6_any _).mono ?_; rintro e w7 ⟨rfl, hb7⟩)
        go_ret
        exact ⟨rfl, hb.trans (hb7.mono hb.size)⟩
    · obtain ⟨k, hk⟩ : ∃ k : Nat, k = 32 + d3 := ⟨_, rfl⟩
      have hkv : 32 + (d3 : Int) = (k : Int) := by omega
      have hkc : 7 ≤ k ∧ k < 16 ∨ 32 ≤ k ∧ k < 36 ∨ 46 ≤ k ∧ k < 52 := by omega
      obtain ⟨O, hO⟩ : ∃ O, O = S.take k ++ ([cc] ++ S.drop (k + 1)) := ⟨_, rfl⟩
      have hoo := Hoth.out k hkc
      rw [← hO] at hoo
      have HO := hideE hoo
      have hOl : O.length ≤ 281474976710656 := by rw [hO]; simp; omega
      obtain ⟨A, hA⟩ : ∃ A, A = S.take k := ⟨_, rfl⟩
      obtain ⟨D, hD⟩ : ∃ D, D = S.drop (k + 1) := ⟨_, rfl⟩
      obtain ⟨AC, hAC⟩ : ∃ AC, AC = A ++ [cc] := ⟨_, rfl⟩
      have hcat1 : (⟨A.toArray⟩ : ByteArray) ++ ⟨#[cc]⟩ = ⟨AC.toArray⟩ := by rw [hAC]; exact cat_lists _ _
      have hcat2 : (⟨AC.toArray⟩ : ByteArray) ++ ⟨D.toArray⟩ = ⟨O.toArray⟩ := by rw [cat_lists, hO, hAC, hA, hD, List.append_assoc]
      have hext : (⟨S.toArray⟩ : ByteArray).extract 0 k = ⟨A.toArray⟩ := by rw [hA]; exact ext_to S k
      have hext2 : (⟨S.toArray⟩ : ByteArray).extract (k + 1) S.length = ⟨D.toArray⟩ := by rw [hD]; exact drop_ext S (k + 1) (by omega)
      have hl1 : ¬ (9223372036854775807 < A.length + 1) := by rw [hA, List.length_take]; omega
      have hl2 : ¬ (9223372036854775807 < AC.length + D.length) := by rw [hAC, hA, hD, List.length_append, List.length_take, List.length_drop]; simp; omega
      have hk0 : (0 : Int) ≤ (k : Int) := by omega
      have hkS : (k : Int) ≤ (S.length : Int) := by omega
      have hk1 : (0 : Int) ≤ (k : Int) + 1 := by omega
      have hk1S : (k : Int) + 1 ≤ (S.length : Int) := by omega
      have hwk1 : IntKind.i64.wrap ((k : Int) + 1) = (k : Int) + 1 := wrE (by omega) (by omega)
      clear hO hoo hkc hA hD hAC hk
      go_wp2_with fail
      have h3 := HL3.out.below (Below.refl _ w3).drew
      refine wp_region_noPanic ?_
      refine wp_region_held_drew (S := LX w X (.slice p X.segs.length c)) (by kernel_rfl) h3 (fun h0 => ?_)
      refine wpAnyH_takeAt (i := 0) (v := ?_) rfl (by kernel_rfl) (by kernel_rfl) (by kernel_rfl) (fun _ _ _ h => h) (Or.inl ⟨by rfl, ?_⟩) h0 ?_
      rotate_left 1
      · intro w' hS; clear hS
        go_simp <;> with_reducible rfl
      try simp only [Act.put, List.setIfInBounds_toArray, List.set_cons_zero, List.set_cons_succ]
      refine wpAnyH_takeAt (i := 1) (v := ?_) rfl (by kernel_rfl) (by kernel_rfl) (by kernel_rfl) (fun _ _ _ h => h) (Or.inl ⟨by rfl, ?_⟩) h0 ?_
      rotate_left 1
      · intro w' hS; clear hS
        go_simp <;> with_reducible rfl
      try simp only [Act.put, List.setIfInBounds_toArray, List.set_cons_zero, List.set_cons_succ]
      refine wpAnyH_takeAt (i := 2) (v := .string ⟨A.toArray⟩) rfl (by kernel_rfl) (by kernel_rfl) (by kernel_rfl) (fun _ _ _ h => h) (Or.inl ⟨by rfl, ?_⟩) h0 ?_
      · intro w' hS; clear hS
        go_simp
      try simp only [Act.put, List.setIfInBounds_toArray, List.set_cons_zero, List.set_cons_succ]
      refine wpAnyH_takeAt (i := 3) (v := ?_) rfl (by kernel_rfl) (by kernel_rfl) (by kernel_rfl) (fun _ _ _ h => h) (Or.inl ⟨by rfl, ?_⟩) h0 ?_
      rotate_left 1
      · intro w' hS; clear hS
        go_simp <;> with_reducible rfl
      try simp only [Act.put, List.setIfInBounds_toArray, List.set_cons_zero, List.set_cons_succ]
      refine wpAnyH_takeAt (i := 7) (v := ?_) rfl (by kernel_rfl) (by kernel_rfl) (by kernel_rfl) (fun _ _ _ h => h) (Or.inl ⟨by rfl, ?_⟩) h0 ?_
      rotate_left 1
      · intro w' hS; clear hS
        go_simp <;> with_reducible rfl
      try simp only [Act.put, List.setIfInBounds_toArray, List.set_cons_zero, List.set_cons_succ]
      refine wpAnyH_takeAt (i := 8) (v := ?_) rfl (by kernel_rfl) (by kernel_rfl) (by kernel_rfl) (fun _ _ _ h => h) (Or.inl ⟨by rfl, ?_⟩) h0 ?_
      rotate_left 1
      · intro w' hS; clear hS
        go_simp <;> with_reducible rfl
      try simp only [Act.put, List.setIfInBounds_toArray, List.set_cons_zero, List.set_cons_succ]
      refine wpAnyH_takeAt (i := 9) (v := .int .i64 ((k : Int) + 1)) rfl (by kernel_rfl) (by kernel_rfl) (by kernel_rfl) (fun _ _ _ h => h) (Or.inl ⟨by rfl, ?_⟩) h0 ?_
      · intro w' hS; clear hS
        go_simp
      try simp only [Act.put, List.setIfInBounds_toArray, List.set_cons_zero, List.set_cons_succ]
      refine wpAnyH_takeAt (i := 10) (v := .string ⟨D.toArray⟩) rfl (by kernel_rfl) (by kernel_rfl) (by kernel_rfl) (fun _ _ _ h => h) (Or.inl ⟨by rfl, ?_⟩) h0 ?_
      · intro w' hS; clear hS
        go_simp
      try simp only [Act.put, List.setIfInBounds_toArray, List.set_cons_zero, List.set_cons_succ]
      refine wpAnyH_ready (rs := [4, 16]) (by kernel_rfl) (by simp) (AllReadyH.cons (at_drop rfl) (fun K hK => ?_) (allReady_at rfl (fun K hK => ?_)))
      · go_simp
        have h1 := h0.alloc (.cells #[.int .u8 (cc.toNat : Int)] 5)
        refine hK.out _ _ h1 (fun _ => ?_)
        clear hK K
        try simp only [Act.put, List.setIfInBounds_toArray, List.set_cons_zero, List.set_cons_succ]
        refine wpAnyH_more (S' := (fun W => LX w X (.slice p X.segs.length c) W ∧ W.cell? ⟨w3.heap.size, 0, none⟩ = some (.int .u8 (cc.toNat : Int)))) (fun _ h => h.1) _ _ _ _ ?_
        have h1' : (fun W => LX w X (.slice p X.segs.length c) W ∧ W.cell? ⟨w3.heap.size, 0, none⟩ = some (.int .u8 (cc.toNat : Int))) _ := ⟨h1, by first | exact alloc_cell _ _ _ | (have := alloc_cell (World.alloc w3.drew (.cells Z3 25)) (.int .u8 (cc.toNat : Int)) 5; rwa [show (World.alloc w3.drew (.cells Z3 25)).heap.size = w3.heap.size + 1 by simp] at this)⟩
        refine wpAnyH_takeAt (i := 5) (v := .string ⟨#[cc]⟩) rfl (by kernel_rfl) (by kernel_rfl) (by kernel_rfl) (fun _ _ _ h => h) (Or.inl ⟨by rfl, ?_⟩) h1' ?_
        · intro w' hS; have y0 := byte_conv (w3.heap.size) cc w' hS.2; clear hS
          go_simp
        try simp only [Act.put, List.setIfInBounds_toArray, List.set_cons_zero, List.set_cons_succ]
        refine wpAnyH_takeAt (i := 6) (v := .string ⟨AC.toArray⟩) rfl (by kernel_rfl) (by kernel_rfl) (by kernel_rfl) (fun _ _ _ h => h) (Or.inl ⟨by rfl, ?_⟩) h1' ?_
        · intro w' hS; clear hS
          go_simp
        try simp only [Act.put, List.setIfInBounds_toArray, List.set_cons_zero, List.set_cons_succ]
        refine wpAnyH_takeAt (i := 11) (v := .string ⟨O.toArray⟩) rfl (by kernel_rfl) (by kernel_rfl) (by kernel_rfl) (fun _ _ _ h => h) (Or.inl ⟨by rfl, ?_⟩) h1' ?_
        · intro w' hS; clear hS
          go_simp
        try simp only [Act.put, List.setIfInBounds_toArray, List.set_cons_zero, List.set_cons_succ]
        refine wpAnyH_ready (rs := [12, 16]) (by kernel_rfl) (by simp) (AllReadyH.cons (at_drop rfl) (fun K hK => ?_) (allReady_at rfl (fun K hK => ?_)))
        · go_simp
          refine (parse_any O hOl _).mono ?_
          rintro e w5 ⟨v5, he, hS5, hb5⟩
          rw [HO.out.2] at hS5
          rw [HO.out.1, HO.out.2] at he
          obtain ⟨p5, c5, rfl, _⟩ := hS5.len
          unfold prgV at he
          subst he
          dsimp only
          have h5 : (fun W => LX w X (.slice p X.segs.length c) W ∧ W.cell? ⟨w3.heap.size, 0, none⟩ = some (.int .u8 (cc.toNat : Int))) w5 := ⟨h1'.1.below hb5, by rw [(below_cell hb5 (by simp)).1]; exact h1'.2⟩
          refine hK.out _ _ h5 (fun _ => ?_)
          clear hK K
          try simp only [Act.put, List.setIfInBounds_toArray, List.set_cons_zero, List.set_cons_succ]
          refine wpAnyH_takeAt (i := 13) (v := ?_) rfl (by kernel_rfl) (by kernel_rfl) (by kernel_rfl) (fun _ _ _ h => h) (Or.inl ⟨by rfl, ?_⟩) h5 ?_
          rotate_left 1
          · intro w' hS; clear hS
            go_simp <;> with_reducible rfl
          try simp only [Act.put, List.setIfInBounds_toArray, List.set_cons_zero, List.set_cons_succ]
          refine wpAnyH_takeAt (i := 14) (v := ?_) rfl (by kernel_rfl) (by kernel_rfl) (by kernel_rfl) (fun _ _ _ h => h) (Or.inl ⟨by rfl, ?_⟩) h5 ?_
          rotate_left 1
          · intro w' hS; clear hS
            go_simp <;> with_reducible rfl
          try simp only [Act.put, List.setIfInBounds_toArray, List.set_cons_zero, List.set_cons_succ]
          refine wpAnyH_takeAt (i := 15) (v := ?_) rfl (by kernel_rfl) (by kernel_rfl) (by kernel_rfl) (fun _ _ _ h => h) (Or.inl ⟨by rfl, ?_⟩) h5 ?_
          rotate_left 1
          · intro w' hS; clear hS
            go_simp <;> with_reducible rfl
          try simp only [Act.put, List.setIfInBounds_toArray, List.set_cons_zero, List.set_cons_succ]
          refine wpAnyH_ready (rs := [16]) (by kernel_rfl) (by simp) (allReady_at rfl (fun K hK => ?_))
          go_simp
          have h6 : (fun W => LX w X (.slice p X.segs.length c) W ∧ W.cell? ⟨w3.heap.size, 0, none⟩ = some (.int .u8 (cc.toNat : Int))) _ := ⟨h5.1.alloc (.cells Z3 25), by rw [(below_cell ((Below.refl _ _).alloc (Nat.le_refl _) _) (ltE' h5.2)).1]; exact h5.2⟩
          refine hK.out _ _ h6 (fun _ => ?_)
          clear hK K
          try simp only [Act.put, List.setIfInBounds_toArray, List.set_cons_zero, List.set_cons_succ]
          have hz := heap_alloc_new w5 (.cells Z3 25)
          have hS6 := hS5.below ((Below.refl _ w5).alloc (Nat.le_refl _) (.cells Z3 25))
          refine wpAnyH_ready (rs := [17]) (by kernel_rfl) (by simp) (allReady_at rfl (fun K hK => ?_))
          rw [if_pos (by rfl)]
          refine wp_store_row 25 _ _ rfl (w5.heap.size) _ rfl rfl _ _ hz (by kernel_rfl) rfl (by kernel_rfl) ?_
          have hT := TwoB.put (X := X) (Y := X) h6.1 hz hS6 (by have h1 := (Array.getElem?_eq_some_iff.1 HL3.out.box).1; first | omega | (have h2 := hb5.size; simp at h2 ⊢; omega))
          have h9 : (fun W => LX w X (.slice p X.segs.length c) W ∧ W.cell? ⟨w3.heap.size, 0, none⟩ = some (.int .u8 (cc.toNat : Int))) _ := ⟨hT.x, by rw [cell_other_row _ _ _ _ _ (by first | omega | (have := hb5.size; simp at this ⊢; omega))]; exact h6.2⟩
          refine hK.out _ _ h9 (fun _ => ?_)
          clear hK K
          try simp only [Act.put, List.setIfInBounds_toArray, List.set_cons_zero, List.set_cons_succ]
          refine wpAnyH_takeAt (i := 18) (v := ?_) rfl (by kernel_rfl) (by kernel_rfl) (by kernel_rfl) (fun _ _ _ h => h) (Or.inl ⟨by rfl, ?_⟩) h9 ?_
          rotate_left 1
          · intro w' hS; clear hS
            go_simp <;> with_reducible rfl
          try simp only [Act.put, List.setIfInBounds_toArray, List.set_cons_zero, List.set_cons_succ]
          refine wpAnyH_done (by kernel_rfl) ?_ _
          refine NoPanic.normal ?_
          refine gen_world (TwoB w _ X X (.slice p X.segs.length c) (.slice p5 X.segs.length c5)) hT ?_
          intro w8 hT8
          clear hT h9
          obtain ⟨⟨a0, a1, a2⟩, _⟩ := three hT8.x.box
          obtain ⟨⟨d0, d1, d2⟩, _⟩ := three hT8.y
          have HSm := hideE (same_self X (.slice p X.segs.length c) (.slice p5 X.segs.length c5) (by omega) _ hT8.x.s hT8.s)
          unfold prgV at HSm
          have HT := hideE hT8
          clear hT8
          go_wp2_with fail
          refine HSm.out.mono ?_
          rintro e w6 ⟨rfl, hb6⟩
          have hb := HT.out.x.low.trans (hb6.mono HT.out.x.low.size)
          go_wp2_with (go_at_call 12; refine (fixed6_any _).mono ?_; rintro e w7 ⟨rfl, hb7⟩)
          go_ret
          exact ⟨rfl, hb.trans (hb7.mono hb.size)⟩
        · go_simp
          have h2 : (fun W => LX w X (.slice p X.segs.length c) W ∧ W.cell? ⟨w3.heap.size, 0, none⟩ = some (.int .u8 (cc.toNat : Int))) _ := ⟨h1'.1.alloc (.cells Z3 25), by rw [(below_cell ((Below.refl _ _).alloc (Nat.le_refl _) _) (ltE' h1'.2)).1]; exact h1'.2⟩
          refine hK.out _ _ h2 (fun _ => ?_)
          clear hK K
          try simp only [Act.put, List.setIfInBounds_toArray, List.set_cons_zero, List.set_cons_succ]
          refine wpAnyH_ready (rs := [12]) (by kernel_rfl) (by simp) (allReady_at rfl (fun K hK => ?_))
          go_simp
          refine (parse_any O hOl _).mono ?_
          rintro e w5 ⟨v5, he, hS5, hb5⟩
          rw [HO.out.2] at hS5
          rw [HO.out.1, HO.out.2] at he
          obtain ⟨p5, c5, rfl, _⟩ := hS5.len
          unfold prgV at he
          subst he
          dsimp only
          have h5 : (fun W => LX w X (.slice p X.segs.length c) W ∧ W.cell? ⟨w3.heap.size, 0, none⟩ = some (.int .u8 (cc.toNat : Int))) w5 := ⟨h2.1.below hb5, by rw [(below_cell hb5 (by simp; omega)).1]; exact h2.2⟩
          have hz : w5.heap[w3.heap.size + 1]? = some (.cells Z3 25 (0, 0)) := keptN hb5 (by rw [show w3.heap.size + 1 = (World.alloc w3.drew (.cells #[.int .u8 (cc.toNat : Int)] 5)).heap.size by simp]; exact heap_alloc_new _ _)
          refine hK.out _ _ h5 (fun _ => ?_)
          clear hK K
          try simp only [Act.put, List.setIfInBounds_toArray, List.set_cons_zero, List.set_cons_succ]
          refine wpAnyH_takeAt (i := 13) (v := ?_) rfl (by kernel_rfl) (by kernel_rfl) (by kernel_rfl) (fun _ _ _ h => h) (Or.inl ⟨by rfl, ?_⟩) h5 ?_
          rotate_left 1
          · intro w' hS; clear hS
            go_simp <;> with_reducible rfl
          try simp only [Act.put, List.setIfInBounds_toArray, List.set_cons_zero, List.set_cons_succ]
          refine wpAnyH_takeAt (i := 14) (v := ?_) rfl (by kernel_rfl) (by kernel_rfl) (by kernel_rfl) (fun _ _ _ h => h) (Or.inl ⟨by rfl, ?_⟩) h5 ?_
          rotate_left 1
          · intro w' hS; clear hS
            go_simp <;> with_reducible rfl
          try simp only [Act.put, List.setIfInBounds_toArray, List.set_cons_zero, List.set_cons_succ]
          refine wpAnyH_takeAt (i := 15) (v := ?_) rfl (by kernel_rfl) (by kernel_rfl) (by kernel_rfl) (fun _ _ _ h => h) (Or.inl ⟨by rfl, ?_⟩) h5 ?_
          rotate_left 1
          · intro w' hS; clear hS
            go_simp <;> with_reducible rfl
          try simp only [Act.put, List.setIfInBounds_toArray, List.set_cons_zero, List.set_cons_succ]
          refine wpAnyH_ready (rs := [17]) (by kernel_rfl) (by simp) (allReady_at rfl (fun K hK => ?_))
          rw [if_pos (by rfl)]
          refine wp_store_row 25 _ _ rfl (w3.heap.size + 1) _ rfl rfl _ _ hz (by kernel_rfl) rfl (by kernel_rfl) ?_
          have hT := TwoB.put (X := X) (Y := X) h5.1 hz hS5 (by have h1 := (Array.getElem?_eq_some_iff.1 HL3.out.box).1; first | omega | (have h2 := hb5.size; simp at h2 ⊢; omega))
          have h9 : (fun W => LX w X (.slice p X.segs.length c) W ∧ W.cell? ⟨w3.heap.size, 0, none⟩ = some (.int .u8 (cc.toNat : Int))) _ := ⟨hT.x, by rw [cell_other_row _ _ _ _ _ (by first | omega | (have := hb5.size; simp at this ⊢; omega))]; exact h5.2⟩
          refine hK.out _ _ h9 (fun _ => ?_)
          clear hK K
          try simp only [Act.put, List.setIfInBounds_toArray, List.set_cons_zero, List.set_cons_succ]
          refine wpAnyH_takeAt (i := 18) (v := ?_) rfl (by kernel_rfl) (by kernel_rfl) (by kernel_rfl) (fun _ _ _ h => h) (Or.inl ⟨by rfl, ?_⟩) h9 ?_
          rotate_left 1
          · intro w' hS; clear hS
            go_simp <;> with_reducible rfl
          try simp only [Act.put, List.setIfInBounds_toArray, List.set_cons_zero, List.set_cons_succ]
          refine wpAnyH_done (by kernel_rfl) ?_ _
          refine NoPanic.normal ?_
          refine gen_world (TwoB w _ X X (.slice p X.segs.length c) (.slice p5 X.segs.length c5)) hT ?_
          intro w8 hT8
          clear hT h9
          obtain ⟨⟨a0, a1, a2⟩, _⟩ := three hT8.x.box
          obtain ⟨⟨d0, d1, d2⟩, _⟩ := three hT8.y
          have HSm := hideE (same_self X (.slice p X.segs.length c) (.slice p5 X.segs.length c5) (by omega) _ hT8.x.s hT8.s)
          unfold prgV at HSm
          have HT := hideE hT8
          clear hT8
          go_wp2_with fail
          refine HSm.out.mono ?_
          rintro e w6 ⟨rfl, hb6⟩
          have hb := HT.out.x.low.trans (hb6.mono HT.out.x.low.size)
          go_wp2_with (go_at_call 12; refine (fixed6_any _).mono ?_; rintro e w7 ⟨rfl, hb7⟩)
          go_ret
          exact ⟨rfl, hb.trans (hb7.mono hb.size)⟩
      · go_simp
        have h1 := h0.alloc (.cells Z3 25)
        refine hK.out _ _ h1 (fun _ => ?_)
        clear hK K
        try simp only [Act.put, List.setIfInBounds_toArray, List.set_cons_zero, List.set_cons_succ]
        refine wpAnyH_ready (rs := [4]) (by kernel_rfl) (by simp) (allReady_at rfl (fun K hK => ?_))
        go_simp
        have h2 := h1.alloc (.cells #[.int .u8 (cc.toNat : Int)] 5)
        refine hK.out _ _ h2 (fun _ => ?_)
        clear hK K
        try simp only [Act.put, List.setIfInBounds_toArray, List.set_cons_zero, List.set_cons_succ]
        refine wpAnyH_more (S' := (fun W => LX w X (.slice p X.segs.length c) W ∧ W.cell? ⟨w3.heap.size + 1, 0, none⟩ = some (.int .u8 (cc.toNat : Int)))) (fun _ h => h.1) _ _ _ _ ?_
        have h2' : (fun W => LX w X (.slice p X.segs.length c) W ∧ W.cell? ⟨w3.heap.size + 1, 0, none⟩ = some (.int .u8 (cc.toNat : Int))) _ := ⟨h2, by first | exact alloc_cell _ _ _ | (have := alloc_cell (World.alloc w3.drew (.cells Z3 25)) (.int .u8 (cc.toNat : Int)) 5; rwa [show (World.alloc w3.drew (.cells Z3 25)).heap.size = w3.heap.size + 1 by simp] at this)⟩
        refine wpAnyH_takeAt (i := 5) (v := .string ⟨#[cc]⟩) rfl (by kernel_rfl) (by kernel_rfl) (by kernel_rfl) (fun _ _ _ h => h) (Or.inl ⟨by rfl, ?_⟩) h2' ?_
        · intro w' hS; have y0 := byte_conv (w3.heap.size + 1) cc w' hS.2; clear hS
          go_simp
        try simp only [Act.put, List.setIfInBounds_toArray, List.set_cons_zero, List.set_cons_succ]
        refine wpAnyH_takeAt (i := 6) (v := .string ⟨AC.toArray⟩) rfl (by kernel_rfl) (by kernel_rfl) (by kernel_rfl) (fun _ _ _ h => h) (Or.inl ⟨by rfl, ?_⟩) h2' ?_
        · intro w' hS; clear hS
          go_simp
        try simp only [Act.put, List.setIfInBounds_toArray, List.set_cons_zero, List.set_cons_succ]
        refine wpAnyH_takeAt (i := 11) (v := .string ⟨O.toArray⟩) rfl (by kernel_rfl) (by kernel_rfl) (by kernel_rfl) (fun _ _ _ h => h) (Or.inl ⟨by rfl, ?_⟩) h2' ?_
        · intro w' hS; clear hS
          go_simp
        try simp only [Act.put, List.setIfInBounds_toArray, List.set_cons_zero, List.set_cons_succ]
        refine wpAnyH_ready (rs := [12]) (by kernel_rfl) (by simp) (allReady_at rfl (fun K hK => ?_))
        go_simp
        refine (parse_any O hOl _).mono ?_
        rintro e w5 ⟨v5, he, hS5, hb5⟩
        rw [HO.out.2] at hS5
        rw [HO.out.1, HO.out.2] at he
        obtain ⟨p5, c5, rfl, _⟩ := hS5.len
        unfold prgV at he
        subst he
        dsimp only
        have h5 : (fun W => LX w X (.slice p X.segs.length c) W ∧ W.cell? ⟨w3.heap.size + 1, 0, none⟩ = some (.int .u8 (cc.toNat : Int))) w5 := ⟨h2'.1.below hb5, by rw [(below_cell hb5 (by simp; try omega)).1]; exact h2'.2⟩
        have hz : w5.heap[w3.heap.size]? = some (.cells Z3 25 (0, 0)) := keptN hb5 (by show ((World.alloc w3 _).alloc _).heap[w3.heap.size]? = _; rw [Below.heap_alloc _ _ _ (by simp)]; exact heap_alloc_new w3 _)
        refine hK.out _ _ h5 (fun _ => ?_)
        clear hK K
        try simp only [Act.put, List.setIfInBounds_toArray, List.set_cons_zero, List.set_cons_succ]
        refine wpAnyH_takeAt (i := 13) (v := ?_) rfl (by kernel_rfl) (by kernel_rfl) (by kernel_rfl) (fun _ _ _ h => h) (Or.inl ⟨by rfl, ?_⟩) h5 ?_
        rotate_left 1
        · intro w' hS; clear hS
          go_simp <;> with_reducible rfl
        try simp only [Act.put, List.setIfInBounds_toArray, List.set_cons_zero, List.set_cons_succ]
        refine wpAnyH_takeAt (i := 14) (v := ?_) rfl (by kernel_rfl) (by kernel_rfl) (by kernel_rfl) (fun _ _ _ h => h) (Or.inl ⟨by rfl, ?_⟩) h5 ?_
        rotate_left 1
        · intro w' hS; clear hS
          go_simp <;> with_reducible rfl
        try simp only [Act.put, List.setIfInBounds_toArray, List.set_cons_zero, List.set_cons_succ]
        refine wpAnyH_takeAt (i := 15) (v := ?_) rfl (by kernel_rfl) (by kernel_rfl) (by kernel_rfl) (fun _ _ _ h => h) (Or.inl ⟨by rfl, ?_⟩) h5 ?_
        rotate_left 1
        · intro w' hS; clear hS
          go_simp <;> with_reducible rfl
        try simp only [Act.put, List.setIfInBounds_toArray, List.set_cons_zero, List.set_cons_succ]
        refine wpAnyH_ready (rs := [17]) (by kernel_rfl) (by simp) (allReady_at rfl (fun K hK => ?_))
        rw [if_pos (by rfl)]
        refine wp_store_row 25 _ _ rfl (w3.heap.size) _ rfl rfl _ _ hz (by kernel_rfl) rfl (by kernel_rfl) ?_
        have hT := TwoB.put (X := X) (Y := X) h5.1 hz hS5 (by have h1 := (Array.getElem?_eq_some_iff.1 HL3.out.box).1; first | omega | (have h2 := hb5.size; simp at h2 ⊢; omega))
        have h9 : (fun W => LX w X (.slice p X.segs.length c) W ∧ W.cell? ⟨w3.heap.size + 1, 0, none⟩ = some (.int .u8 (cc.toNat : Int))) _ := ⟨hT.x, by rw [cell_other_row _ _ _ _ _ (by first | omega | (have := hb5.size; simp at this ⊢; omega))]; exact h5.2⟩
        refine hK.out _ _ h9 (fun _ => ?_)
        clear hK K
        try simp only [Act.put, List.setIfInBounds_toArray, List.set_cons_zero, List.set_cons_succ]
        refine wpAnyH_takeAt (i := 18) (v := ?_) rfl (by kernel_rfl) (by kernel_rfl) (by kernel_rfl) (fun _ _ _ h => h) (Or.inl ⟨by rfl, ?_⟩) h9 ?_
        rotate_left 1
        · intro w' hS; clear hS
          go_simp <;> with_reducible rfl
        try simp only [Act.put, List.setIfInBounds_toArray, List.set_cons_zero, List.set_cons_succ]
        refine wpAnyH_done (by kernel_rfl) ?_ _
        refine NoPanic.normal ?_
        refine gen_world (TwoB w _ X X (.slice p X.segs.length c) (.slice p5 X.segs.length c5)) hT ?_
        intro w8 hT8
        clear hT h9
        obtain ⟨⟨a0, a1, a2⟩, _⟩ := three hT8.x.box
        obtain ⟨⟨d0, d1, d2⟩, _⟩ := three hT8.y
        have HSm := hideE (same_self X (.slice p X.segs.length c) (.slice p5 X.segs.length c5) (by omega) _ hT8.x.s hT8.s)
        unfold prgV at HSm
        have HT := hideE hT8
        clear hT8
        go_wp2_with fail
        refine HSm.out.mono ?_
        rintro e w6 ⟨rfl, hb6⟩
        have hb := HT.out.x.low.trans (hb6.mono HT.out.x.low.size)
        go_wp2_with (go_at_call 12; refine (fixed6_any _).mono ?_; rintro e w7 ⟨rfl, hb7⟩)
        go_ret
        exact ⟨rfl, hb.trans (hb7.mono hb.size)⟩
  · have hq : (chk X.segs != 0) = true := bne_iff_ne.2 h0
    have hv : wrV X = [] := by unfold wrV; rw [if_neg h0]
    rw [hv]
    clear h0 hv
    generalize chk X.segs = k at *
    go_wp2_with (go_at_call 12; refine (fixed6_any _).mono ?_; rintro e w7 ⟨rfl, hb7⟩)
    go_ret
    exact ⟨rfl, HL3.out.low.trans (hb7.mono HL3.out.low.size)⟩
theorem elfNever_walk' (x : Prg) (u : Value) (a : Int) (c : Int) (w : World) (hS : SlS w u x.segs) (hF : ∀ g ∈ x.segs, Fits g) (_ : -9223372036854775808 ≤ a ∧ a ≤ 9223372036854775807) (hc : 0 ≤ c ∧ c ≤ 255) :
    Calls Try.prog 8 #[prgV x u, .int .i64 a, .int .u8 c] w fun e w' => e = .returned (.bool true) ∧ Below w.heap.size w w' := by
  have e : c = ((UInt8.ofNat c.toNat).toNat : Int) := by rw [UInt8.toNat_ofNat']; omega
  rw [e]; exact elfNever_walk x u a _ w hS hF
end Go.Proofs.Ytegfpbffgnpebaa
