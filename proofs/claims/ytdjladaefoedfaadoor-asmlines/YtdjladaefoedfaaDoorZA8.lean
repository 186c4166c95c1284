/-
  Contracts of the document's names, Name, By and Num.
  Contract of the document's Num: a number's text.
  Contract of the document's Print.
-/
import Derived.Great.BuildSlice
import Derived.Laws.IdiomStrings
import Derived.Test.YtdjladaefoedfaaDoorZA2
import Derived.Test.YtdjladaefoedfaaDoorZA3
import Derived.Test.YtdjladaefoedfaaDoorZr
namespace Go.Proofs.YtdjladaefoedfaaDoor
open Go.RowKit Ip As

theorem infoS : (Tryd.prog.info? 9).map (fun i => (i.zero, i.size)) = some (some (.string ⟨#[]⟩), 1) := by kernel_rfl
set_option maxRecDepth 100000 in
set_option maxHeartbeats 4000000 in
theorem rnames_any (w : World) : Calls Tryd.prog 28 #[] w fun e w' => e = .returned (.slice (some ⟨w.heap.size, 0, none⟩) 47 47) ∧ w' = w.alloc (.cells Nv 9) := by
  obtain ⟨ie, hie, hz, hs⟩ : ∃ i, Tryd.prog.info? 9 = some i ∧ i.zero = some (.string ⟨#[]⟩) ∧ i.size = 1 := by
    have h := infoS
    cases hi : Tryd.prog.info? 9 with
    | none => rw [hi] at h; cases h
    | some i => rw [hi] at h; simp at h; exact ⟨i, rfl, h.1, h.2⟩
  go_enter Tryd.func28, Tryd.ntmps28
  go_wp2_with (refine wpList_buildSlice rfl 46 9 47 _ rfl Nv ie (.string ⟨#[]⟩) Tryd.underlying46 hie hz (by rw [hs]; decide) (by rw [hs]; decide) (by rw [hs]; kernel_rfl) ?_)
  go_ret
  exact ⟨rfl, rfl⟩
theorem nv_cell (w : World) (k : Nat) (hk : k < 47) : (w.alloc (.cells Nv 9)).cell? ⟨w.heap.size, k, none⟩ = some (.string ⟨(nm k).toArray⟩) := by
  simp only [World.cell?]
  rw [heap_alloc_new]
  revert k
  refine cases47 ?_ ?_ ?_ ?_ ?_ ?_ ?_ ?_ ?_ ?_ ?_ ?_ ?_ ?_ ?_ ?_ ?_ ?_ ?_ ?_ ?_ ?_ ?_ ?_ ?_ ?_ ?_ ?_ ?_ ?_ ?_ ?_ ?_ ?_ ?_ ?_ ?_ ?_ ?_ ?_ ?_ ?_ ?_ ?_ ?_ ?_ ?_
  all_goals kernel_rfl
theorem rname_any (op : Int) (w : World) : Calls Tryd.prog 13 #[.int .i64 op] w fun e w' => e = .returned (.string ⟨(name op).toArray⟩) ∧ Below w.heap.size w w' := by
  have hb1 : ∀ W : World, Below W.heap.size W (W.alloc (.cells Nv 9)) := fun W => (Below.refl _ _).alloc (Nat.le_refl _) _
  by_cases h0 : op < 0
  · go_enter Tryd.func13, Tryd.ntmps13
    go_wp2
    go_ret
    exact ⟨ret_str (a := []) (by unfold name; rw [if_neg (by omega)]), Below.refl _ _⟩
  · by_cases h1 : 47 ≤ op
    · go_enter Tryd.func13, Tryd.ntmps13
      go_wp2_with (go_at_call 28; refine (rnames_any _).mono ?_; rintro e w1 ⟨rfl, rfl⟩)
      go_ret
      exact ⟨ret_str (a := []) (by unfold name; rw [if_pos (by omega), nm_big _ (by omega)]), hb1 _⟩
    · obtain ⟨k, rfl⟩ := Int.eq_ofNat_of_zero_le (by omega : 0 ≤ op)
      have hc := fun w : World => nv_cell w k (by omega)
      go_enter Tryd.func13, Tryd.ntmps13
      go_wp2_with fail
      refine (rnames_any _).mono ?_
      rintro e w1 ⟨rfl, hw⟩
      have hB := hb1 w
      rw [← hw] at hB
      clear hw
      go_wp2_with fail
      refine (rnames_any _).mono ?_
      rintro e w2 ⟨rfl, hw⟩
      have hc2 : w2.cell? ⟨w1.heap.size, k, none⟩ = some (.string ⟨(nm k).toArray⟩) := by rw [hw]; exact hc w1
      have hB2 : Below w.heap.size w w2 := by rw [hw]; exact hB.trans ((hb1 w1).mono hB.size)
      clear hw hc hb1
      go_wp2_with fail
      go_ret
      exact ⟨ret_str (by unfold name; rw [if_pos (by omega), Int.toNat_natCast]), hB2⟩

set_option maxRecDepth 100000 in
set_option maxHeartbeats 4000000 in
theorem rby_any (s : ByteArray) (w : World) : Calls Tryd.prog 15 #[.string s] w fun e w' => e = .returned (.int .i64 (byV s.data.toList)) ∧ Below w.heap.size w w' := by
  have Hb : Hid (∀ W : World, Below W.heap.size W (W.alloc (.cells Nv 9))) := fun W => (Below.refl _ _).alloc (Nat.le_refl _) _
  go_enter Tryd.func15, Tryd.ntmps15
  go_wp2
  go_loopw [3] (fun i wr => ∃ k : Nat, k ≤ 47 ∧ i = .int .i64 (k : Int) ∧ (∀ i, i < k → nm i ≠ s.data.toList) ∧ Below w.heap.size w wr) (fun i _ => (47 - intOf i).toNat)
  case atStart => exact ⟨0, by omega, rfl, fun i h => absurd h (by omega), Below.refl _ _⟩
  case round =>
    obtain ⟨k, hk, rfl, hno, hB0⟩ := hrel
    have HN : Hid (∀ i, i < k → nm i ≠ s.data.toList) := hno
    clear hno
    go_wp2_with fail
    refine (rnames_any _).mono ?_
    rintro e w1 ⟨rfl, hw⟩
    have hB1 : Below w.heap.size w w1 := by rw [hw]; exact hB0.trans ((Hb.out wr).mono hB0.size)
    clear hw hB0
    by_cases hlt : k < 47
    · have hlt' : ((k : Int) < 47) := by omega
      go_wp2_with fail
      refine (rnames_any _).mono ?_
      rintro e w2 ⟨rfl, hw⟩
      have hc2 : w2.cell? ⟨w1.heap.size, k, none⟩ = some (.string ⟨(nm k).toArray⟩) := by rw [hw]; exact nv_cell w1 k hlt
      have hB2 : Below w.heap.size w w2 := by rw [hw]; exact hB1.trans ((Hb.out w1).mono hB1.size)
      clear hw hB1
      go_wp2_with fail
      · have he : (nm k == s.data.toList) = true := by first | assumption | (rw [← Lib.toList_data]; assumption) | simp_all
        go_ret
        exact ⟨ret_int (byV_hit _ k hlt (beq_iff_eq.1 he)).symm, hB2⟩
      · have he : (nm k == s.data.toList) = false := by first | assumption | (rw [← Lib.toList_data]; assumption) | simp_all
        go_roundw
        case measure => show (47 - ((k : Int) + 1)).toNat < (47 - (k : Int)).toNat; omega
        exact ⟨k + 1, by omega, rfl, fun i hi => by
          by_cases h : i = k
          · rw [h]; exact beq_eq_false_iff_ne.1 he
          · exact HN.out i (by omega), hB2⟩
    · obtain rfl : k = 47 := by omega
      go_wp2_with fail
      go_ret
      exact ⟨ret_int (byV_miss _ HN.out).symm, hB1⟩
end Go.Proofs.YtdjladaefoedfaaDoor
namespace Go.Proofs.YtdjladaefoedfaaDoor
open Go.RowKit Ip As

theorem byte_str (d : Nat) (hd : d < 10) (w : World) : (convert 55 9 (.slice (some ⟨w.heap.size, 0, none⟩) 1 1)).run Tryd.prog (w.alloc (.cells #[.int .u8 (48 + (d : Int))] 5)) = .ok (.string ⟨#[UInt8.ofNat (48 + d)]⟩) (w.alloc (.cells #[.int .u8 (48 + (d : Int))] 5)) := by
  have := run_convert_bytes_back (P := Tryd.prog) (w.alloc (.cells #[.int .u8 (48 + (d : Int))] 5)) 55 9 5 ⟨w.heap.size, 0, none⟩ 1 [UInt8.ofNat (48 + d)] Tryd.underlying55 Tryd.underlying5 Tryd.underlying9 (fun j hj => by
    obtain rfl : j = 0 := by simpa using hj
    simp only [List.getElem_cons_zero, (digit_of d hd).2]
    simp [Addr.add])
  simpa using this
set_option maxHeartbeats 4000000 in
set_option maxRecDepth 100000 in
theorem rnum_nat (u : Nat) (hu : u < 1000000000000) : ∀ w : World, Calls Tryd.prog 26 #[.int .i64 (u : Int)] w fun e w' => e = .returned (.string ⟨(Lib.decDigits u).toArray⟩) ∧ Below w.heap.size w w' := by
  induction u using Nat.strongRecOn with
  | ind u ih =>
  intro w
  have h0 : ¬ ((u : Int) < 0) := by omega
  obtain ⟨d, hd⟩ : ∃ d, d = u % 10 := ⟨_, rfl⟩
  have hd10 : d < 10 := by omega
  have hm : (u : Int).tmod 10 = (d : Int) := by rw [Int.tmod_eq_emod_of_nonneg (by omega)]; omega
  have hw1 : IntKind.i64.wrap (48 + (d : Int)) = 48 + (d : Int) := wr64 (by omega) (by omega)
  have hw2 : IntKind.u8.wrap (48 + (d : Int)) = 48 + (d : Int) := by rw [IntKind.wrap_u8]; omega
  have hbs := byte_str d hd10
  obtain ⟨D, hD⟩ : ∃ D : UInt8, UInt8.ofNat (48 + d) = D := ⟨_, rfl⟩
  rw [hD] at hbs
  have HD : Hid (UInt8.ofNat (48 + d) = D) := hD
  clear hD
  have IH : Hid (∀ m, m < u → m < 1000000000000 → ∀ w : World, Calls Tryd.prog 26 #[.int .i64 (m : Int)] w fun e w' => e = .returned (.string ⟨(Lib.decDigits m).toArray⟩) ∧ Below w.heap.size w w') := ih
  have Hd : Hid (d = u % 10) := hd
  have HU : Hid (u < 1000000000000) := hu
  clear ih hd hu
  by_cases h : u < 10
  · have hlt : ¬ ((10 : Int) ≤ (u : Int)) := by omega
    have He : Hid (Lib.decDigits u = [D]) := by show _ = _; rw [dd_small h, ← HD.out, Hd.out, Nat.mod_eq_of_lt h]
    clear h
    rw [He.out]
    go_enter Tryd.func26, Tryd.ntmps26
    go_wp2_with fail
    go_ret
    exact ⟨rfl, (Below.refl _ _).alloc (Nat.le_refl _) _⟩
  · have hge : (10 : Int) ≤ (u : Int) := by omega
    obtain ⟨q, hq⟩ : ∃ q, q = u / 10 := ⟨_, rfl⟩
    have hdv : (u : Int).tdiv 10 = (q : Int) := by rw [Int.tdiv_eq_ediv_of_nonneg (by omega)]; omega
    have hwq : IntKind.i64.wrap (q : Int) = (q : Int) := wr64 (by omega) (by have := HU.out; omega)
    have He : Hid (Lib.decDigits u = Lib.decDigits q ++ [D]) := by show _ = _; rw [dd_big h, ← HD.out, Hd.out, hq]
    have hl := dd_len 11 q (by have := HU.out; omega)
    have hc := cat_to (Lib.decDigits q) [D] (Lib.decDigits u) He.out (by simp only [List.length_cons, List.length_nil]; omega)
    have Hq : Hid (q < u ∧ q < 1000000000000) := ⟨by omega, by have := HU.out; omega⟩
    clear h hl hq
    go_enter Tryd.func26, Tryd.ntmps26
    go_wp2_with fail
    refine (IH.out q Hq.out.1 Hq.out.2 _).mono ?_
    rintro e w1 ⟨rfl, hb⟩
    go_wp2_with fail
    go_ret
    exact ⟨rfl, ((Below.refl _ _).alloc (Nat.le_refl _) _).trans (hb.mono (by simp))⟩
set_option maxRecDepth 100000 in
theorem rnum_any (n : Int) (h0 : -1000000000 ≤ n) (h1 : n ≤ 1000000000) (w : World) : Calls Tryd.prog 26 #[.int .i64 n] w fun e w' => e = .returned (.string ⟨(Lib.itoa n).toArray⟩) ∧ Below w.heap.size w w' := by
  by_cases h : n < 0
  · obtain ⟨u, hu⟩ := Int.eq_ofNat_of_zero_le (show 0 ≤ -n by omega)
    have hu2 : u < 1000000000000 := by omega
    have hng : IntKind.i64.wrap (-n) = (u : Int) := by rw [← hu]; exact wr64 (by omega) (by omega)
    have hl := dd_len 11 u (by omega)
    have hc := cat_to [45] (Lib.decDigits u) (Lib.itoa n) (by rw [itoa_neg n h, show n.natAbs = u by omega]; rfl) (by simp only [List.length_cons, List.length_nil]; omega)
    have HR : Hid (∀ w : World, Calls Tryd.prog 26 #[.int .i64 (u : Int)] w fun e w' => e = .returned (.string ⟨(Lib.decDigits u).toArray⟩) ∧ Below w.heap.size w w') := rnum_nat u hu2
    clear hl hu hu2
    go_enter Tryd.func26, Tryd.ntmps26
    go_wp2_with (go_at_call 26; refine (HR.out _).mono ?_; rintro e w1 ⟨rfl, hb⟩)
    go_ret
    exact ⟨rfl, hb⟩
  · obtain ⟨u, rfl⟩ := Int.eq_ofNat_of_zero_le (show 0 ≤ n by omega)
    rw [itoa_pos _ h, Int.toNat_natCast]
    exact rnum_nat u (by omega) w
end Go.Proofs.YtdjladaefoedfaaDoor
namespace Go.Proofs.YtdjladaefoedfaaDoor
open Go.RowKit Ip As


set_option maxRecDepth 100000 in
set_option maxHeartbeats 4000000 in
theorem rprint_85 (op rd rs1 rs2 imm : Int) (hs : sh op = 85) (hok : (Ins.mk op rd rs1 rs2 imm).ok = true) (w : World) : Calls Tryd.prog 10 #[(Ins.mk op rd rs1 rs2 imm).val] w fun e w' => e = .returned (.tuple #[.string ⟨(txt ⟨op, rd, rs1, rs2, imm⟩).toArray⟩, .int .i64 0]) ∧ Below w.heap.size w w' := by
  have hF := fine_of hok
  obtain ⟨⟨hrd0, hrd1⟩, ⟨hrs10, hrs11⟩, ⟨hrs20, hrs21⟩, himm0, himm1⟩ := hF.sm
  simp only [] at hrd0 hrd1 hrs10 hrs11 hrs20 hrs21 himm0 himm1
  have HO : Hid (right op rd rs1 rs2 imm = true) := hok
  have HFm : Hid (85 = frm op) := by
    show _ = _
    rw [← (sh_frm op (by omega)).1, hs]
  have ln := name_len op
  have l1 := rg_len rd (by omega) (by omega)
  have l2 := rg_len rs1 (by omega) (by omega)
  have l3 := rg_len rs2 (by omega) (by omega)
  have l4 := Lib.itoa_length_le imm (by omega) (by omega)
  have m1 := Lib.itoa_length_le rd (by omega) (by omega)
  have m2 := Lib.itoa_length_le rs1 (by omega) (by omega)
  have m3 := Lib.itoa_length_le rs2 (by omega) (by omega)
  have cd := cat_to [120] (Lib.itoa rd) (rg rd) rfl (by simp only [List.length_cons, List.length_nil]; omega)
  have ca := cat_to [120] (Lib.itoa rs1) (rg rs1) rfl (by simp only [List.length_cons, List.length_nil]; omega)
  have cb := cat_to [120] (Lib.itoa rs2) (rg rs2) rfl (by simp only [List.length_cons, List.length_nil]; omega)
  obtain ⟨A0, hA0⟩ : ∃ A, A = name op ++ [32] := ⟨_, rfl⟩
  have c0 := cat_to (name op) [32] A0 hA0 (by simp only [List.length_cons, List.length_nil]; omega)
  obtain ⟨A1, hA1⟩ : ∃ A, A = A0 ++ (rg rd) := ⟨_, rfl⟩
  have c1 := cat_to A0 (rg rd) A1 hA1 (by rw [hA0]; simp only [List.length_append, List.length_cons, List.length_nil]; omega)
  obtain ⟨A2, hA2⟩ : ∃ A, A = A1 ++ [44, 32] := ⟨_, rfl⟩
  have c2 := cat_to A1 ([44, 32]) A2 hA2 (by rw [hA1, hA0]; simp only [List.length_append, List.length_cons, List.length_nil]; omega)
  have c3 := cat_to A2 (Lib.itoa imm) (txt ⟨op, rd, rs1, rs2, imm⟩) (by rw [hA2, hA1, hA0]; unfold txt prts; simp [hs, join2]) (by rw [hA2, hA1, hA0]; simp only [List.length_append, List.length_cons, List.length_nil]; omega)
  clear hA1 hA2
  clear hA0 ln l1 l2 l3 l4 m1 m2 m3 hok hF hs
  go_enter Tryd.func10, Tryd.ntmps10
  go_wp2_with fail
  have HX0 : Hid (HeldX w op rd rs1 rs2 imm _) := HeldX.start w op rd rs1 rs2 imm 23
  refine (rright_any op rd rs1 rs2 imm _).mono ?_
  rintro e w1 ⟨he, hb⟩
  rw [HO.out] at he; subst he
  have HX : Hid (HeldX w op rd rs1 rs2 imm w1) := HX0.out.below hb
  clear hb HX0
  go_wp2_with fail
  go_region_held3 (fun w' => w'.cell? ⟨w.heap.size, 0, none⟩ = some (.int .i64 op) ∧ w'.cell? ⟨w.heap.size, 1, none⟩ = some (.int .i64 rd) ∧ w'.cell? ⟨w.heap.size, 2, none⟩ = some (.int .i64 rs1) ∧ w'.cell? ⟨w.heap.size, 3, none⟩ = some (.int .i64 rs2) ∧ w'.cell? ⟨w.heap.size, 4, none⟩ = some (.int .i64 imm) ∧ Below w.heap.size w w' ∧ w.heap.size < w'.heap.size)
    ((show HeldX w op rd rs1 rs2 imm _; with_reducible (repeat (first | assumption | exact HX.out | refine HeldX.drew ?_ | refine HeldX.alloc ?_ _))))
    (first
      | (go_at_call 26; refine (rnum_any _ (by assumption) (by assumption) _).mono ?_; rintro e w3 ⟨rfl, hk⟩; have hS : HeldX w op rd rs1 rs2 imm w3 := HeldX.below (by assumption) hk))
  obtain ⟨x0, x1, x2, x3, x4, hB, hlt⟩ := hS
  go_wp2_with fail
  refine (rname_any op _).mono ?_
  rintro e w4 ⟨rfl, hb⟩
  have hB4 := hB.trans (hb.mono (by omega))
  obtain ⟨x0, x1, x2, x3, x4, _, _⟩ := HeldX.below (⟨x0, x1, x2, x3, x4, hB, hlt⟩ : HeldX w op rd rs1 rs2 imm _) hb
  clear hb hB
  go_wp2_with fail
  refine (rform_to op 85 HFm.out _).mono ?_
  rintro e w5 ⟨rfl, hw⟩
  rw [hw]
  clear hw w5
  go_wp2_with fail
  go_ret2
  exact ⟨rfl, hB4⟩

set_option maxRecDepth 100000 in
set_option maxHeartbeats 4000000 in
theorem rprint_74 (op rd rs1 rs2 imm : Int) (hs : sh op = 74) (hok : (Ins.mk op rd rs1 rs2 imm).ok = true) (w : World) : Calls Tryd.prog 10 #[(Ins.mk op rd rs1 rs2 imm).val] w fun e w' => e = .returned (.tuple #[.string ⟨(txt ⟨op, rd, rs1, rs2, imm⟩).toArray⟩, .int .i64 0]) ∧ Below w.heap.size w w' := by
  have hF := fine_of hok
  obtain ⟨⟨hrd0, hrd1⟩, ⟨hrs10, hrs11⟩, ⟨hrs20, hrs21⟩, himm0, himm1⟩ := hF.sm
  simp only [] at hrd0 hrd1 hrs10 hrs11 hrs20 hrs21 himm0 himm1
  have HO : Hid (right op rd rs1 rs2 imm = true) := hok
  have HFm : Hid (74 = frm op) := by
    show _ = _
    rw [← (sh_frm op (by omega)).1, hs]
  have ln := name_len op
  have l1 := rg_len rd (by omega) (by omega)
  have l2 := rg_len rs1 (by omega) (by omega)
  have l3 := rg_len rs2 (by omega) (by omega)
  have l4 := Lib.itoa_length_le imm (by omega) (by omega)
  have m1 := Lib.itoa_length_le rd (by omega) (by omega)
  have m2 := Lib.itoa_length_le rs1 (by omega) (by omega)
  have m3 := Lib.itoa_length_le rs2 (by omega) (by omega)
  have cd := cat_to [120] (Lib.itoa rd) (rg rd) rfl (by simp only [List.length_cons, List.length_nil]; omega)
  have ca := cat_to [120] (Lib.itoa rs1) (rg rs1) rfl (by simp only [List.length_cons, List.length_nil]; omega)
  have cb := cat_to [120] (Lib.itoa rs2) (rg rs2) rfl (by simp only [List.length_cons, List.length_nil]; omega)
  obtain ⟨A0, hA0⟩ : ∃ A, A = name op ++ [32] := ⟨_, rfl⟩
  have c0 := cat_to (name op) [32] A0 hA0 (by simp only [List.length_cons, List.length_nil]; omega)
  obtain ⟨A1, hA1⟩ : ∃ A, A = A0 ++ (rg rd) := ⟨_, rfl⟩
  have c1 := cat_to A0 (rg rd) A1 hA1 (by rw [hA0]; simp only [List.length_append, List.length_cons, List.length_nil]; omega)
  obtain ⟨A2, hA2⟩ : ∃ A, A = A1 ++ [44, 32] := ⟨_, rfl⟩
  have c2 := cat_to A1 ([44, 32]) A2 hA2 (by rw [hA1, hA0]; simp only [List.length_append, List.length_cons, List.length_nil]; omega)
  have c3 := cat_to A2 (Lib.itoa imm) (txt ⟨op, rd, rs1, rs2, imm⟩) (by rw [hA2, hA1, hA0]; unfold txt prts; simp [hs, join2]) (by rw [hA2, hA1, hA0]; simp only [List.length_append, List.length_cons, List.length_nil]; omega)
  clear hA1 hA2
  clear hA0 ln l1 l2 l3 l4 m1 m2 m3 hok hF hs
  go_enter Tryd.func10, Tryd.ntmps10
  go_wp2_with fail
  have HX0 : Hid (HeldX w op rd rs1 rs2 imm _) := HeldX.start w op rd rs1 rs2 imm 23
  refine (rright_any op rd rs1 rs2 imm _).mono ?_
  rintro e w1 ⟨he, hb⟩
  rw [HO.out] at he; subst he
  have HX : Hid (HeldX w op rd rs1 rs2 imm w1) := HX0.out.below hb
  clear hb HX0
  go_wp2_with fail
  go_region_held3 (fun w' => w'.cell? ⟨w.heap.size, 0, none⟩ = some (.int .i64 op) ∧ w'.cell? ⟨w.heap.size, 1, none⟩ = some (.int .i64 rd) ∧ w'.cell? ⟨w.heap.size, 2, none⟩ = some (.int .i64 rs1) ∧ w'.cell? ⟨w.heap.size, 3, none⟩ = some (.int .i64 rs2) ∧ w'.cell? ⟨w.heap.size, 4, none⟩ = some (.int .i64 imm) ∧ Below w.heap.size w w' ∧ w.heap.size < w'.heap.size)
    ((show HeldX w op rd rs1 rs2 imm _; with_reducible (repeat (first | assumption | exact HX.out | refine HeldX.drew ?_ | refine HeldX.alloc ?_ _))))
    (first
      | (go_at_call 26; refine (rnum_any _ (by assumption) (by assumption) _).mono ?_; rintro e w3 ⟨rfl, hk⟩; have hS : HeldX w op rd rs1 rs2 imm w3 := HeldX.below (by assumption) hk))
  obtain ⟨x0, x1, x2, x3, x4, hB, hlt⟩ := hS
  go_wp2_with fail
  refine (rname_any op _).mono ?_
  rintro e w4 ⟨rfl, hb⟩
  have hB4 := hB.trans (hb.mono (by omega))
  obtain ⟨x0, x1, x2, x3, x4, _, _⟩ := HeldX.below (⟨x0, x1, x2, x3, x4, hB, hlt⟩ : HeldX w op rd rs1 rs2 imm _) hb
  clear hb hB
  go_wp2_with fail
  refine (rform_to op 74 HFm.out _).mono ?_
  rintro e w5 ⟨rfl, hw⟩
  rw [hw]
  clear hw w5
  go_wp2_with fail
  go_ret2
  exact ⟨rfl, hB4⟩

set_option maxRecDepth 100000 in
set_option maxHeartbeats 4000000 in
theorem rprint_82 (op rd rs1 rs2 imm : Int) (hs : sh op = 82) (hok : (Ins.mk op rd rs1 rs2 imm).ok = true) (w : World) : Calls Tryd.prog 10 #[(Ins.mk op rd rs1 rs2 imm).val] w fun e w' => e = .returned (.tuple #[.string ⟨(txt ⟨op, rd, rs1, rs2, imm⟩).toArray⟩, .int .i64 0]) ∧ Below w.heap.size w w' := by
  have hF := fine_of hok
  obtain ⟨⟨hrd0, hrd1⟩, ⟨hrs10, hrs11⟩, ⟨hrs20, hrs21⟩, himm0, himm1⟩ := hF.sm
  simp only [] at hrd0 hrd1 hrs10 hrs11 hrs20 hrs21 himm0 himm1
  have HO : Hid (right op rd rs1 rs2 imm = true) := hok
  have HFm : Hid (82 = frm op) := by
    show _ = _
    rw [← (sh_frm op (by omega)).1, hs]
  have ln := name_len op
  have l1 := rg_len rd (by omega) (by omega)
  have l2 := rg_len rs1 (by omega) (by omega)
  have l3 := rg_len rs2 (by omega) (by omega)
  have l4 := Lib.itoa_length_le imm (by omega) (by omega)
  have m1 := Lib.itoa_length_le rd (by omega) (by omega)
  have m2 := Lib.itoa_length_le rs1 (by omega) (by omega)
  have m3 := Lib.itoa_length_le rs2 (by omega) (by omega)
  have cd := cat_to [120] (Lib.itoa rd) (rg rd) rfl (by simp only [List.length_cons, List.length_nil]; omega)
  have ca := cat_to [120] (Lib.itoa rs1) (rg rs1) rfl (by simp only [List.length_cons, List.length_nil]; omega)
  have cb := cat_to [120] (Lib.itoa rs2) (rg rs2) rfl (by simp only [List.length_cons, List.length_nil]; omega)
  obtain ⟨A0, hA0⟩ : ∃ A, A = name op ++ [32] := ⟨_, rfl⟩
  have c0 := cat_to (name op) [32] A0 hA0 (by simp only [List.length_cons, List.length_nil]; omega)
  obtain ⟨A1, hA1⟩ : ∃ A, A = A0 ++ (rg rd) := ⟨_, rfl⟩
  have c1 := cat_to A0 (rg rd) A1 hA1 (by rw [hA0]; simp only [List.length_append, List.length_cons, List.length_nil]; omega)
  obtain ⟨A2, hA2⟩ : ∃ A, A = A1 ++ [44, 32] := ⟨_, rfl⟩
  have c2 := cat_to A1 ([44, 32]) A2 hA2 (by rw [hA1, hA0]; simp only [List.length_append, List.length_cons, List.length_nil]; omega)
  obtain ⟨A3, hA3⟩ : ∃ A, A = A2 ++ (rg rs1) := ⟨_, rfl⟩
  have c3 := cat_to A2 (rg rs1) A3 hA3 (by rw [hA2, hA1, hA0]; simp only [List.length_append, List.length_cons, List.length_nil]; omega)
  obtain ⟨A4, hA4⟩ : ∃ A, A = A3 ++ [44, 32] := ⟨_, rfl⟩
  have c4 := cat_to A3 ([44, 32]) A4 hA4 (by rw [hA3, hA2, hA1, hA0]; simp only [List.length_append, List.length_cons, List.length_nil]; omega)
  have c5 := cat_to A4 (rg rs2) (txt ⟨op, rd, rs1, rs2, imm⟩) (by rw [hA4, hA3, hA2, hA1, hA0]; unfold txt prts; simp [hs, join3]) (by rw [hA4, hA3, hA2, hA1, hA0]; simp only [List.length_append, List.length_cons, List.length_nil]; omega)
  clear hA1 hA2 hA3 hA4
  clear hA0 ln l1 l2 l3 l4 m1 m2 m3 hok hF hs
  go_enter Tryd.func10, Tryd.ntmps10
  go_wp2_with fail
  have HX0 : Hid (HeldX w op rd rs1 rs2 imm _) := HeldX.start w op rd rs1 rs2 imm 23
  refine (rright_any op rd rs1 rs2 imm _).mono ?_
  rintro e w1 ⟨he, hb⟩
  rw [HO.out] at he; subst he
  have HX : Hid (HeldX w op rd rs1 rs2 imm w1) := HX0.out.below hb
  clear hb HX0
  go_wp2_with fail
  go_region_held3 (fun w' => w'.cell? ⟨w.heap.size, 0, none⟩ = some (.int .i64 op) ∧ w'.cell? ⟨w.heap.size, 1, none⟩ = some (.int .i64 rd) ∧ w'.cell? ⟨w.heap.size, 2, none⟩ = some (.int .i64 rs1) ∧ w'.cell? ⟨w.heap.size, 3, none⟩ = some (.int .i64 rs2) ∧ w'.cell? ⟨w.heap.size, 4, none⟩ = some (.int .i64 imm) ∧ Below w.heap.size w w' ∧ w.heap.size < w'.heap.size)
    ((show HeldX w op rd rs1 rs2 imm _; with_reducible (repeat (first | assumption | exact HX.out | refine HeldX.drew ?_ | refine HeldX.alloc ?_ _))))
    (first
      | (go_at_call 26; refine (rnum_any _ (by assumption) (by assumption) _).mono ?_; rintro e w3 ⟨rfl, hk⟩; have hS : HeldX w op rd rs1 rs2 imm w3 := HeldX.below (by assumption) hk))
  obtain ⟨x0, x1, x2, x3, x4, hB, hlt⟩ := hS
  go_wp2_with fail
  refine (rname_any op _).mono ?_
  rintro e w4 ⟨rfl, hb⟩
  have hB4 := hB.trans (hb.mono (by omega))
  obtain ⟨x0, x1, x2, x3, x4, _, _⟩ := HeldX.below (⟨x0, x1, x2, x3, x4, hB, hlt⟩ : HeldX w op rd rs1 rs2 imm _) hb
  clear hb hB
  go_wp2_with fail
  refine (rform_to op 82 HFm.out _).mono ?_
  rintro e w5 ⟨rfl, hw⟩
  rw [hw]
  clear hw w5
  go_wp2_with fail
  go_ret2
  exact ⟨rfl, hB4⟩

set_option maxRecDepth 100000 in
set_option maxHeartbeats 4000000 in
theorem rprint_66 (op rd rs1 rs2 imm : Int) (hs : sh op = 66) (hok : (Ins.mk op rd rs1 rs2 imm).ok = true) (w : World) : Calls Tryd.prog 10 #[(Ins.mk op rd rs1 rs2 imm).val] w fun e w' => e = .returned (.tuple #[.string ⟨(txt ⟨op, rd, rs1, rs2, imm⟩).toArray⟩, .int .i64 0]) ∧ Below w.heap.size w w' := by
  have hF := fine_of hok
  obtain ⟨⟨hrd0, hrd1⟩, ⟨hrs10, hrs11⟩, ⟨hrs20, hrs21⟩, himm0, himm1⟩ := hF.sm
  simp only [] at hrd0 hrd1 hrs10 hrs11 hrs20 hrs21 himm0 himm1
  have HO : Hid (right op rd rs1 rs2 imm = true) := hok
  have HFm : Hid (66 = frm op) := by
    show _ = _
    rw [← (sh_frm op (by omega)).1, hs]
  have ln := name_len op
  have l1 := rg_len rd (by omega) (by omega)
  have l2 := rg_len rs1 (by omega) (by omega)
  have l3 := rg_len rs2 (by omega) (by omega)
  have l4 := Lib.itoa_length_le imm (by omega) (by omega)
  have m1 := Lib.itoa_length_le rd (by omega) (by omega)
  have m2 := Lib.itoa_length_le rs1 (by omega) (by omega)
  have m3 := Lib.itoa_length_le rs2 (by omega) (by omega)
  have cd := cat_to [120] (Lib.itoa rd) (rg rd) rfl (by simp only [List.length_cons, List.length_nil]; omega)
  have ca := cat_to [120] (Lib.itoa rs1) (rg rs1) rfl (by simp only [List.length_cons, List.length_nil]; omega)
  have cb := cat_to [120] (Lib.itoa rs2) (rg rs2) rfl (by simp only [List.length_cons, List.length_nil]; omega)
  obtain ⟨A0, hA0⟩ : ∃ A, A = name op ++ [32] := ⟨_, rfl⟩
  have c0 := cat_to (name op) [32] A0 hA0 (by simp only [List.length_cons, List.length_nil]; omega)
  obtain ⟨A1, hA1⟩ : ∃ A, A = A0 ++ (rg rs1) := ⟨_, rfl⟩
  have c1 := cat_to A0 (rg rs1) A1 hA1 (by rw [hA0]; simp only [List.length_append, List.length_cons, List.length_nil]; omega)
  obtain ⟨A2, hA2⟩ : ∃ A, A = A1 ++ [44, 32] := ⟨_, rfl⟩
  have c2 := cat_to A1 ([44, 32]) A2 hA2 (by rw [hA1, hA0]; simp only [List.length_append, List.length_cons, List.length_nil]; omega)
  obtain ⟨A3, hA3⟩ : ∃ A, A = A2 ++ (rg rs2) := ⟨_, rfl⟩
  have c3 := cat_to A2 (rg rs2) A3 hA3 (by rw [hA2, hA1, hA0]; simp only [List.length_append, List.length_cons, List.length_nil]; omega)
  obtain ⟨A4, hA4⟩ : ∃ A, A = A3 ++ [44, 32] := ⟨_, rfl⟩
  have c4 := cat_to A3 ([44, 32]) A4 hA4 (by rw [hA3, hA2, hA1, hA0]; simp only [List.length_append, List.length_cons, List.length_nil]; omega)
  have c5 := cat_to A4 (Lib.itoa imm) (txt ⟨op, rd, rs1, rs2, imm⟩) (by rw [hA4, hA3, hA2, hA1, hA0]; unfold txt prts; simp [hs, join3]) (by rw [hA4, hA3, hA2, hA1, hA0]; simp only [List.length_append, List.length_cons, List.length_nil]; omega)
  clear hA1 hA2 hA3 hA4
  clear hA0 ln l1 l2 l3 l4 m1 m2 m3 hok hF hs
  go_enter Tryd.func10, Tryd.ntmps10
  go_wp2_with fail
  have HX0 : Hid (HeldX w op rd rs1 rs2 imm _) := HeldX.start w op rd rs1 rs2 imm 23
  refine (rright_any op rd rs1 rs2 imm _).mono ?_
  rintro e w1 ⟨he, hb⟩
  rw [HO.out] at he; subst he
  have HX : Hid (HeldX w op rd rs1 rs2 imm w1) := HX0.out.below hb
  clear hb HX0
  go_wp2_with fail
  go_region_held3 (fun w' => w'.cell? ⟨w.heap.size, 0, none⟩ = some (.int .i64 op) ∧ w'.cell? ⟨w.heap.size, 1, none⟩ = some (.int .i64 rd) ∧ w'.cell? ⟨w.heap.size, 2, none⟩ = some (.int .i64 rs1) ∧ w'.cell? ⟨w.heap.size, 3, none⟩ = some (.int .i64 rs2) ∧ w'.cell? ⟨w.heap.size, 4, none⟩ = some (.int .i64 imm) ∧ Below w.heap.size w w' ∧ w.heap.size < w'.heap.size)
    ((show HeldX w op rd rs1 rs2 imm _; with_reducible (repeat (first | assumption | exact HX.out | refine HeldX.drew ?_ | refine HeldX.alloc ?_ _))))
    (first
      | (go_at_call 26; refine (rnum_any _ (by assumption) (by assumption) _).mono ?_; rintro e w3 ⟨rfl, hk⟩; have hS : HeldX w op rd rs1 rs2 imm w3 := HeldX.below (by assumption) hk))
  obtain ⟨x0, x1, x2, x3, x4, hB, hlt⟩ := hS
  go_wp2_with fail
  refine (rname_any op _).mono ?_
  rintro e w4 ⟨rfl, hb⟩
  have hB4 := hB.trans (hb.mono (by omega))
  obtain ⟨x0, x1, x2, x3, x4, _, _⟩ := HeldX.below (⟨x0, x1, x2, x3, x4, hB, hlt⟩ : HeldX w op rd rs1 rs2 imm _) hb
  clear hb hB
  go_wp2_with fail
  refine (rform_to op 66 HFm.out _).mono ?_
  rintro e w5 ⟨rfl, hw⟩
  rw [hw]
  clear hw w5
  go_wp2_with fail
  go_ret2
  exact ⟨rfl, hB4⟩

set_option maxRecDepth 100000 in
set_option maxHeartbeats 4000000 in
theorem rprint_83 (op rd rs1 rs2 imm : Int) (hs : sh op = 83) (hok : (Ins.mk op rd rs1 rs2 imm).ok = true) (w : World) : Calls Tryd.prog 10 #[(Ins.mk op rd rs1 rs2 imm).val] w fun e w' => e = .returned (.tuple #[.string ⟨(txt ⟨op, rd, rs1, rs2, imm⟩).toArray⟩, .int .i64 0]) ∧ Below w.heap.size w w' := by
  have hF := fine_of hok
  obtain ⟨⟨hrd0, hrd1⟩, ⟨hrs10, hrs11⟩, ⟨hrs20, hrs21⟩, himm0, himm1⟩ := hF.sm
  simp only [] at hrd0 hrd1 hrs10 hrs11 hrs20 hrs21 himm0 himm1
  have HO : Hid (right op rd rs1 rs2 imm = true) := hok
  have HFm : Hid (83 = frm op) := by
    show _ = _
    rw [← (sh_frm op (by omega)).1, hs]
  have ln := name_len op
  have l1 := rg_len rd (by omega) (by omega)
  have l2 := rg_len rs1 (by omega) (by omega)
  have l3 := rg_len rs2 (by omega) (by omega)
  have l4 := Lib.itoa_length_le imm (by omega) (by omega)
  have m1 := Lib.itoa_length_le rd (by omega) (by omega)
  have m2 := Lib.itoa_length_le rs1 (by omega) (by omega)
  have m3 := Lib.itoa_length_le rs2 (by omega) (by omega)
  have cd := cat_to [120] (Lib.itoa rd) (rg rd) rfl (by simp only [List.length_cons, List.length_nil]; omega)
  have ca := cat_to [120] (Lib.itoa rs1) (rg rs1) rfl (by simp only [List.length_cons, List.length_nil]; omega)
  have cb := cat_to [120] (Lib.itoa rs2) (rg rs2) rfl (by simp only [List.length_cons, List.length_nil]; omega)
  obtain ⟨A0, hA0⟩ : ∃ A, A = name op ++ [32] := ⟨_, rfl⟩
  have c0 := cat_to (name op) [32] A0 hA0 (by simp only [List.length_cons, List.length_nil]; omega)
  obtain ⟨A1, hA1⟩ : ∃ A, A = A0 ++ (rg rs2) := ⟨_, rfl⟩
  have c1 := cat_to A0 (rg rs2) A1 hA1 (by rw [hA0]; simp only [List.length_append, List.length_cons, List.length_nil]; omega)
  obtain ⟨A2, hA2⟩ : ∃ A, A = A1 ++ [44, 32] := ⟨_, rfl⟩
  have c2 := cat_to A1 ([44, 32]) A2 hA2 (by rw [hA1, hA0]; simp only [List.length_append, List.length_cons, List.length_nil]; omega)
  obtain ⟨A3, hA3⟩ : ∃ A, A = A2 ++ (Lib.itoa imm) := ⟨_, rfl⟩
  have c3 := cat_to A2 (Lib.itoa imm) A3 hA3 (by rw [hA2, hA1, hA0]; simp only [List.length_append, List.length_cons, List.length_nil]; omega)
  obtain ⟨A4, hA4⟩ : ∃ A, A = A3 ++ [40] := ⟨_, rfl⟩
  have c4 := cat_to A3 ([40]) A4 hA4 (by rw [hA3, hA2, hA1, hA0]; simp only [List.length_append, List.length_cons, List.length_nil]; omega)
  obtain ⟨A5, hA5⟩ : ∃ A, A = A4 ++ (rg rs1) := ⟨_, rfl⟩
  have c5 := cat_to A4 (rg rs1) A5 hA5 (by rw [hA4, hA3, hA2, hA1, hA0]; simp only [List.length_append, List.length_cons, List.length_nil]; omega)
  have c6 := cat_to A5 ([41]) (txt ⟨op, rd, rs1, rs2, imm⟩) (by rw [hA5, hA4, hA3, hA2, hA1, hA0]; unfold txt prts; simp [hs, join2, plc]) (by rw [hA5, hA4, hA3, hA2, hA1, hA0]; simp only [List.length_append, List.length_cons, List.length_nil]; omega)
  clear hA1 hA2 hA3 hA4 hA5
  clear hA0 ln l1 l2 l3 l4 m1 m2 m3 hok hF hs
  go_enter Tryd.func10, Tryd.ntmps10
  go_wp2_with fail
  have HX0 : Hid (HeldX w op rd rs1 rs2 imm _) := HeldX.start w op rd rs1 rs2 imm 23
  refine (rright_any op rd rs1 rs2 imm _).mono ?_
  rintro e w1 ⟨he, hb⟩
  rw [HO.out] at he; subst he
  have HX : Hid (HeldX w op rd rs1 rs2 imm w1) := HX0.out.below hb
  clear hb HX0
  go_wp2_with fail
  go_region_held3 (fun w' => w'.cell? ⟨w.heap.size, 0, none⟩ = some (.int .i64 op) ∧ w'.cell? ⟨w.heap.size, 1, none⟩ = some (.int .i64 rd) ∧ w'.cell? ⟨w.heap.size, 2, none⟩ = some (.int .i64 rs1) ∧ w'.cell? ⟨w.heap.size, 3, none⟩ = some (.int .i64 rs2) ∧ w'.cell? ⟨w.heap.size, 4, none⟩ = some (.int .i64 imm) ∧ Below w.heap.size w w' ∧ w.heap.size < w'.heap.size)
    ((show HeldX w op rd rs1 rs2 imm _; with_reducible (repeat (first | assumption | exact HX.out | refine HeldX.drew ?_ | refine HeldX.alloc ?_ _))))
    (first
      | (go_at_call 26; refine (rnum_any _ (by assumption) (by assumption) _).mono ?_; rintro e w3 ⟨rfl, hk⟩; have hS : HeldX w op rd rs1 rs2 imm w3 := HeldX.below (by assumption) hk))
  obtain ⟨x0, x1, x2, x3, x4, hB, hlt⟩ := hS
  go_wp2_with fail
  refine (rname_any op _).mono ?_
  rintro e w4 ⟨rfl, hb⟩
  have hB4 := hB.trans (hb.mono (by omega))
  obtain ⟨x0, x1, x2, x3, x4, _, _⟩ := HeldX.below (⟨x0, x1, x2, x3, x4, hB, hlt⟩ : HeldX w op rd rs1 rs2 imm _) hb
  clear hb hB
  go_wp2_with fail
  refine (rform_to op 83 HFm.out _).mono ?_
  rintro e w5 ⟨rfl, hw⟩
  rw [hw]
  clear hw w5
  go_wp2_with fail
  go_ret2
  exact ⟨rfl, hB4⟩

set_option maxRecDepth 100000 in
set_option maxHeartbeats 4000000 in
theorem rprint_77 (op rd rs1 rs2 imm : Int) (hs : sh op = 77) (hok : (Ins.mk op rd rs1 rs2 imm).ok = true) (w : World) : Calls Tryd.prog 10 #[(Ins.mk op rd rs1 rs2 imm).val] w fun e w' => e = .returned (.tuple #[.string ⟨(txt ⟨op, rd, rs1, rs2, imm⟩).toArray⟩, .int .i64 0]) ∧ Below w.heap.size w w' := by
  have hF := fine_of hok
  obtain ⟨⟨hrd0, hrd1⟩, ⟨hrs10, hrs11⟩, ⟨hrs20, hrs21⟩, himm0, himm1⟩ := hF.sm
  simp only [] at hrd0 hrd1 hrs10 hrs11 hrs20 hrs21 himm0 himm1
  have HO : Hid (right op rd rs1 rs2 imm = true) := hok
  have HFm : Hid (73 = frm op) := by
    show _ = _
    rw [(sh_77 op hs).1]
  have ln := name_len op
  have l1 := rg_len rd (by omega) (by omega)
  have l2 := rg_len rs1 (by omega) (by omega)
  have l3 := rg_len rs2 (by omega) (by omega)
  have l4 := Lib.itoa_length_le imm (by omega) (by omega)
  have m1 := Lib.itoa_length_le rd (by omega) (by omega)
  have m2 := Lib.itoa_length_le rs1 (by omega) (by omega)
  have m3 := Lib.itoa_length_le rs2 (by omega) (by omega)
  have cd := cat_to [120] (Lib.itoa rd) (rg rd) rfl (by simp only [List.length_cons, List.length_nil]; omega)
  have ca := cat_to [120] (Lib.itoa rs1) (rg rs1) rfl (by simp only [List.length_cons, List.length_nil]; omega)
  have cb := cat_to [120] (Lib.itoa rs2) (rg rs2) rfl (by simp only [List.length_cons, List.length_nil]; omega)
  obtain ⟨A0, hA0⟩ : ∃ A, A = name op ++ [32] := ⟨_, rfl⟩
  have c0 := cat_to (name op) [32] A0 hA0 (by simp only [List.length_cons, List.length_nil]; omega)
  obtain ⟨A1, hA1⟩ : ∃ A, A = A0 ++ (rg rd) := ⟨_, rfl⟩
  have c1 := cat_to A0 (rg rd) A1 hA1 (by rw [hA0]; simp only [List.length_append, List.length_cons, List.length_nil]; omega)
  obtain ⟨A2, hA2⟩ : ∃ A, A = A1 ++ [44, 32] := ⟨_, rfl⟩
  have c2 := cat_to A1 ([44, 32]) A2 hA2 (by rw [hA1, hA0]; simp only [List.length_append, List.length_cons, List.length_nil]; omega)
  obtain ⟨A3, hA3⟩ : ∃ A, A = A2 ++ (Lib.itoa imm) := ⟨_, rfl⟩
  have c3 := cat_to A2 (Lib.itoa imm) A3 hA3 (by rw [hA2, hA1, hA0]; simp only [List.length_append, List.length_cons, List.length_nil]; omega)
  obtain ⟨A4, hA4⟩ : ∃ A, A = A3 ++ [40] := ⟨_, rfl⟩
  have c4 := cat_to A3 ([40]) A4 hA4 (by rw [hA3, hA2, hA1, hA0]; simp only [List.length_append, List.length_cons, List.length_nil]; omega)
  obtain ⟨A5, hA5⟩ : ∃ A, A = A4 ++ (rg rs1) := ⟨_, rfl⟩
  have c5 := cat_to A4 (rg rs1) A5 hA5 (by rw [hA4, hA3, hA2, hA1, hA0]; simp only [List.length_append, List.length_cons, List.length_nil]; omega)
  have c6 := cat_to A5 ([41]) (txt ⟨op, rd, rs1, rs2, imm⟩) (by rw [hA5, hA4, hA3, hA2, hA1, hA0]; unfold txt prts; simp [hs, join2, plc]) (by rw [hA5, hA4, hA3, hA2, hA1, hA0]; simp only [List.length_append, List.length_cons, List.length_nil]; omega)
  clear hA1 hA2 hA3 hA4 hA5
  have hM : op = 3 ∨ (10 ≤ op ∧ op ≤ 14) := of_decide_eq_true (sh_77 op hs).2
  clear hA0 ln l1 l2 l3 l4 m1 m2 m3 hok hF hs
  by_cases hM3 : op = 3
  · have hq : (op == 3) = true := beq_iff_eq.2 hM3
    clear hM hM3
    go_enter Tryd.func10, Tryd.ntmps10
    go_wp2_with fail
    have HX0 : Hid (HeldX w op rd rs1 rs2 imm _) := HeldX.start w op rd rs1 rs2 imm 23
    refine (rright_any op rd rs1 rs2 imm _).mono ?_
    rintro e w1 ⟨he, hb⟩
    rw [HO.out] at he; subst he
    have HX : Hid (HeldX w op rd rs1 rs2 imm w1) := HX0.out.below hb
    clear hb HX0
    go_wp2_with fail
    go_region_held3 (fun w' => w'.cell? ⟨w.heap.size, 0, none⟩ = some (.int .i64 op) ∧ w'.cell? ⟨w.heap.size, 1, none⟩ = some (.int .i64 rd) ∧ w'.cell? ⟨w.heap.size, 2, none⟩ = some (.int .i64 rs1) ∧ w'.cell? ⟨w.heap.size, 3, none⟩ = some (.int .i64 rs2) ∧ w'.cell? ⟨w.heap.size, 4, none⟩ = some (.int .i64 imm) ∧ Below w.heap.size w w' ∧ w.heap.size < w'.heap.size)
      ((show HeldX w op rd rs1 rs2 imm _; with_reducible (repeat (first | assumption | exact HX.out | refine HeldX.drew ?_ | refine HeldX.alloc ?_ _))))
      (first
        | (go_at_call 26; refine (rnum_any _ (by assumption) (by assumption) _).mono ?_; rintro e w3 ⟨rfl, hk⟩; have hS : HeldX w op rd rs1 rs2 imm w3 := HeldX.below (by assumption) hk))
    obtain ⟨x0, x1, x2, x3, x4, hB, hlt⟩ := hS
    go_wp2_with fail
    refine (rname_any op _).mono ?_
    rintro e w4 ⟨rfl, hb⟩
    have hB4 := hB.trans (hb.mono (by omega))
    obtain ⟨x0, x1, x2, x3, x4, _, _⟩ := HeldX.below (⟨x0, x1, x2, x3, x4, hB, hlt⟩ : HeldX w op rd rs1 rs2 imm _) hb
    clear hb hB
    go_wp2_with fail
    refine (rform_to op 73 HFm.out _).mono ?_
    rintro e w5 ⟨rfl, hw⟩
    rw [hw]
    clear hw w5
    go_wp2_with fail
    go_ret2
    exact ⟨rfl, hB4⟩
  · have hq : (op == 3) = false := beq_eq_false_iff_ne.2 hM3
    have hM1 : 10 ≤ op := by omega
    have hM2 : op ≤ 14 := by omega
    clear hM hM3
    go_enter Tryd.func10, Tryd.ntmps10
    go_wp2_with fail
    have HX0 : Hid (HeldX w op rd rs1 rs2 imm _) := HeldX.start w op rd rs1 rs2 imm 23
    refine (rright_any op rd rs1 rs2 imm _).mono ?_
    rintro e w1 ⟨he, hb⟩
    rw [HO.out] at he; subst he
    have HX : Hid (HeldX w op rd rs1 rs2 imm w1) := HX0.out.below hb
    clear hb HX0
    go_wp2_with fail
    go_region_held3 (fun w' => w'.cell? ⟨w.heap.size, 0, none⟩ = some (.int .i64 op) ∧ w'.cell? ⟨w.heap.size, 1, none⟩ = some (.int .i64 rd) ∧ w'.cell? ⟨w.heap.size, 2, none⟩ = some (.int .i64 rs1) ∧ w'.cell? ⟨w.heap.size, 3, none⟩ = some (.int .i64 rs2) ∧ w'.cell? ⟨w.heap.size, 4, none⟩ = some (.int .i64 imm) ∧ Below w.heap.size w w' ∧ w.heap.size < w'.heap.size)
      ((show HeldX w op rd rs1 rs2 imm _; with_reducible (repeat (first | assumption | exact HX.out | refine HeldX.drew ?_ | refine HeldX.alloc ?_ _))))
      (first
        | (go_at_call 26; refine (rnum_any _ (by assumption) (by assumption) _).mono ?_; rintro e w3 ⟨rfl, hk⟩; have hS : HeldX w op rd rs1 rs2 imm w3 := HeldX.below (by assumption) hk))
    obtain ⟨x0, x1, x2, x3, x4, hB, hlt⟩ := hS
    go_wp2_with fail
    refine (rname_any op _).mono ?_
    rintro e w4 ⟨rfl, hb⟩
    have hB4 := hB.trans (hb.mono (by omega))
    obtain ⟨x0, x1, x2, x3, x4, _, _⟩ := HeldX.below (⟨x0, x1, x2, x3, x4, hB, hlt⟩ : HeldX w op rd rs1 rs2 imm _) hb
    clear hb hB
    go_wp2_with fail
    refine (rform_to op 73 HFm.out _).mono ?_
    rintro e w5 ⟨rfl, hw⟩
    rw [hw]
    clear hw w5
    go_wp2_with fail
    go_ret2
    exact ⟨rfl, hB4⟩

set_option maxRecDepth 100000 in
set_option maxHeartbeats 4000000 in
theorem rprint_73 (op rd rs1 rs2 imm : Int) (hs : sh op = 73) (hok : (Ins.mk op rd rs1 rs2 imm).ok = true) (w : World) : Calls Tryd.prog 10 #[(Ins.mk op rd rs1 rs2 imm).val] w fun e w' => e = .returned (.tuple #[.string ⟨(txt ⟨op, rd, rs1, rs2, imm⟩).toArray⟩, .int .i64 0]) ∧ Below w.heap.size w w' := by
  have hF := fine_of hok
  obtain ⟨⟨hrd0, hrd1⟩, ⟨hrs10, hrs11⟩, ⟨hrs20, hrs21⟩, himm0, himm1⟩ := hF.sm
  simp only [] at hrd0 hrd1 hrs10 hrs11 hrs20 hrs21 himm0 himm1
  have HO : Hid (right op rd rs1 rs2 imm = true) := hok
  have HFm : Hid (73 = frm op) := by
    show _ = _
    rw [← (sh_frm op (by omega)).1, hs]
  have ln := name_len op
  have l1 := rg_len rd (by omega) (by omega)
  have l2 := rg_len rs1 (by omega) (by omega)
  have l3 := rg_len rs2 (by omega) (by omega)
  have l4 := Lib.itoa_length_le imm (by omega) (by omega)
  have m1 := Lib.itoa_length_le rd (by omega) (by omega)
  have m2 := Lib.itoa_length_le rs1 (by omega) (by omega)
  have m3 := Lib.itoa_length_le rs2 (by omega) (by omega)
  have cd := cat_to [120] (Lib.itoa rd) (rg rd) rfl (by simp only [List.length_cons, List.length_nil]; omega)
  have ca := cat_to [120] (Lib.itoa rs1) (rg rs1) rfl (by simp only [List.length_cons, List.length_nil]; omega)
  have cb := cat_to [120] (Lib.itoa rs2) (rg rs2) rfl (by simp only [List.length_cons, List.length_nil]; omega)
  obtain ⟨A0, hA0⟩ : ∃ A, A = name op ++ [32] := ⟨_, rfl⟩
  have c0 := cat_to (name op) [32] A0 hA0 (by simp only [List.length_cons, List.length_nil]; omega)
  obtain ⟨A1, hA1⟩ : ∃ A, A = A0 ++ (rg rd) := ⟨_, rfl⟩
  have c1 := cat_to A0 (rg rd) A1 hA1 (by rw [hA0]; simp only [List.length_append, List.length_cons, List.length_nil]; omega)
  obtain ⟨A2, hA2⟩ : ∃ A, A = A1 ++ [44, 32] := ⟨_, rfl⟩
  have c2 := cat_to A1 ([44, 32]) A2 hA2 (by rw [hA1, hA0]; simp only [List.length_append, List.length_cons, List.length_nil]; omega)
  obtain ⟨A3, hA3⟩ : ∃ A, A = A2 ++ (rg rs1) := ⟨_, rfl⟩
  have c3 := cat_to A2 (rg rs1) A3 hA3 (by rw [hA2, hA1, hA0]; simp only [List.length_append, List.length_cons, List.length_nil]; omega)
  obtain ⟨A4, hA4⟩ : ∃ A, A = A3 ++ [44, 32] := ⟨_, rfl⟩
  have c4 := cat_to A3 ([44, 32]) A4 hA4 (by rw [hA3, hA2, hA1, hA0]; simp only [List.length_append, List.length_cons, List.length_nil]; omega)
  have c5 := cat_to A4 (Lib.itoa imm) (txt ⟨op, rd, rs1, rs2, imm⟩) (by rw [hA4, hA3, hA2, hA1, hA0]; unfold txt prts; simp [hs, join3]) (by rw [hA4, hA3, hA2, hA1, hA0]; simp only [List.length_append, List.length_cons, List.length_nil]; omega)
  clear hA1 hA2 hA3 hA4
  have hM := of_decide_eq_false (sh_frm op (by omega)).2
  clear hA0 ln l1 l2 l3 l4 m1 m2 m3 hok hF hs
  have hq : (op == 3) = false := beq_eq_false_iff_ne.2 (by omega)
  by_cases hM1 : 10 ≤ op
  · have hM2 : ¬ op ≤ 14 := by omega
    clear hM
    go_enter Tryd.func10, Tryd.ntmps10
    go_wp2_with fail
    have HX0 : Hid (HeldX w op rd rs1 rs2 imm _) := HeldX.start w op rd rs1 rs2 imm 23
    refine (rright_any op rd rs1 rs2 imm _).mono ?_
    rintro e w1 ⟨he, hb⟩
    rw [HO.out] at he; subst he
    have HX : Hid (HeldX w op rd rs1 rs2 imm w1) := HX0.out.below hb
    clear hb HX0
    go_wp2_with fail
    go_region_held3 (fun w' => w'.cell? ⟨w.heap.size, 0, none⟩ = some (.int .i64 op) ∧ w'.cell? ⟨w.heap.size, 1, none⟩ = some (.int .i64 rd) ∧ w'.cell? ⟨w.heap.size, 2, none⟩ = some (.int .i64 rs1) ∧ w'.cell? ⟨w.heap.size, 3, none⟩ = some (.int .i64 rs2) ∧ w'.cell? ⟨w.heap.size, 4, none⟩ = some (.int .i64 imm) ∧ Below w.heap.size w w' ∧ w.heap.size < w'.heap.size)
      ((show HeldX w op rd rs1 rs2 imm _; with_reducible (repeat (first | assumption | exact HX.out | refine HeldX.drew ?_ | refine HeldX.alloc ?_ _))))
      (first
        | (go_at_call 26; refine (rnum_any _ (by assumption) (by assumption) _).mono ?_; rintro e w3 ⟨rfl, hk⟩; have hS : HeldX w op rd rs1 rs2 imm w3 := HeldX.below (by assumption) hk))
    obtain ⟨x0, x1, x2, x3, x4, hB, hlt⟩ := hS
    go_wp2_with fail
    refine (rname_any op _).mono ?_
    rintro e w4 ⟨rfl, hb⟩
    have hB4 := hB.trans (hb.mono (by omega))
    obtain ⟨x0, x1, x2, x3, x4, _, _⟩ := HeldX.below (⟨x0, x1, x2, x3, x4, hB, hlt⟩ : HeldX w op rd rs1 rs2 imm _) hb
    clear hb hB
    go_wp2_with fail
    refine (rform_to op 73 HFm.out _).mono ?_
    rintro e w5 ⟨rfl, hw⟩
    rw [hw]
    clear hw w5
    go_wp2_with fail
    go_ret2
    exact ⟨rfl, hB4⟩
  · clear hM
    go_enter Tryd.func10, Tryd.ntmps10
    go_wp2_with fail
    have HX0 : Hid (HeldX w op rd rs1 rs2 imm _) := HeldX.start w op rd rs1 rs2 imm 23
    refine (rright_any op rd rs1 rs2 imm _).mono ?_
    rintro e w1 ⟨he, hb⟩
    rw [HO.out] at he; subst he
    have HX : Hid (HeldX w op rd rs1 rs2 imm w1) := HX0.out.below hb
    clear hb HX0
    go_wp2_with fail
    go_region_held3 (fun w' => w'.cell? ⟨w.heap.size, 0, none⟩ = some (.int .i64 op) ∧ w'.cell? ⟨w.heap.size, 1, none⟩ = some (.int .i64 rd) ∧ w'.cell? ⟨w.heap.size, 2, none⟩ = some (.int .i64 rs1) ∧ w'.cell? ⟨w.heap.size, 3, none⟩ = some (.int .i64 rs2) ∧ w'.cell? ⟨w.heap.size, 4, none⟩ = some (.int .i64 imm) ∧ Below w.heap.size w w' ∧ w.heap.size < w'.heap.size)
      ((show HeldX w op rd rs1 rs2 imm _; with_reducible (repeat (first | assumption | exact HX.out | refine HeldX.drew ?_ | refine HeldX.alloc ?_ _))))
      (first
        | (go_at_call 26; refine (rnum_any _ (by assumption) (by assumption) _).mono ?_; rintro e w3 ⟨rfl, hk⟩; have hS : HeldX w op rd rs1 rs2 imm w3 := HeldX.below (by assumption) hk))
    obtain ⟨x0, x1, x2, x3, x4, hB, hlt⟩ := hS
    go_wp2_with fail
    refine (rname_any op _).mono ?_
    rintro e w4 ⟨rfl, hb⟩
    have hB4 := hB.trans (hb.mono (by omega))
    obtain ⟨x0, x1, x2, x3, x4, _, _⟩ := HeldX.below (⟨x0, x1, x2, x3, x4, hB, hlt⟩ : HeldX w op rd rs1 rs2 imm _) hb
    clear hb hB
    go_wp2_with fail
    refine (rform_to op 73 HFm.out _).mono ?_
    rintro e w5 ⟨rfl, hw⟩
    rw [hw]
    clear hw w5
    go_wp2_with fail
    go_ret2
    exact ⟨rfl, hB4⟩

set_option maxRecDepth 100000 in
set_option maxHeartbeats 4000000 in
theorem rprint_72 (op rd rs1 rs2 imm : Int) (hs : sh op = 72) (hok : (Ins.mk op rd rs1 rs2 imm).ok = true) (w : World) : Calls Tryd.prog 10 #[(Ins.mk op rd rs1 rs2 imm).val] w fun e w' => e = .returned (.tuple #[.string ⟨(txt ⟨op, rd, rs1, rs2, imm⟩).toArray⟩, .int .i64 0]) ∧ Below w.heap.size w w' := by
  have hF := fine_of hok
  obtain ⟨⟨hrd0, hrd1⟩, ⟨hrs10, hrs11⟩, ⟨hrs20, hrs21⟩, himm0, himm1⟩ := hF.sm
  simp only [] at hrd0 hrd1 hrs10 hrs11 hrs20 hrs21 himm0 himm1
  have HO : Hid (right op rd rs1 rs2 imm = true) := hok
  have HFm : Hid (72 = frm op) := by
    show _ = _
    rw [← (sh_frm op (by omega)).1, hs]
  have ln := name_len op
  have l1 := rg_len rd (by omega) (by omega)
  have l2 := rg_len rs1 (by omega) (by omega)
  have l3 := rg_len rs2 (by omega) (by omega)
  have l4 := Lib.itoa_length_le imm (by omega) (by omega)
  have m1 := Lib.itoa_length_le rd (by omega) (by omega)
  have m2 := Lib.itoa_length_le rs1 (by omega) (by omega)
  have m3 := Lib.itoa_length_le rs2 (by omega) (by omega)
  have cd := cat_to [120] (Lib.itoa rd) (rg rd) rfl (by simp only [List.length_cons, List.length_nil]; omega)
  have ca := cat_to [120] (Lib.itoa rs1) (rg rs1) rfl (by simp only [List.length_cons, List.length_nil]; omega)
  have cb := cat_to [120] (Lib.itoa rs2) (rg rs2) rfl (by simp only [List.length_cons, List.length_nil]; omega)
  obtain ⟨A0, hA0⟩ : ∃ A, A = name op ++ [32] := ⟨_, rfl⟩
  have c0 := cat_to (name op) [32] A0 hA0 (by simp only [List.length_cons, List.length_nil]; omega)
  obtain ⟨A1, hA1⟩ : ∃ A, A = A0 ++ (rg rd) := ⟨_, rfl⟩
  have c1 := cat_to A0 (rg rd) A1 hA1 (by rw [hA0]; simp only [List.length_append, List.length_cons, List.length_nil]; omega)
  obtain ⟨A2, hA2⟩ : ∃ A, A = A1 ++ [44, 32] := ⟨_, rfl⟩
  have c2 := cat_to A1 ([44, 32]) A2 hA2 (by rw [hA1, hA0]; simp only [List.length_append, List.length_cons, List.length_nil]; omega)
  obtain ⟨A3, hA3⟩ : ∃ A, A = A2 ++ (rg rs1) := ⟨_, rfl⟩
  have c3 := cat_to A2 (rg rs1) A3 hA3 (by rw [hA2, hA1, hA0]; simp only [List.length_append, List.length_cons, List.length_nil]; omega)
  obtain ⟨A4, hA4⟩ : ∃ A, A = A3 ++ [44, 32] := ⟨_, rfl⟩
  have c4 := cat_to A3 ([44, 32]) A4 hA4 (by rw [hA3, hA2, hA1, hA0]; simp only [List.length_append, List.length_cons, List.length_nil]; omega)
  have c5 := cat_to A4 (Lib.itoa imm) (txt ⟨op, rd, rs1, rs2, imm⟩) (by rw [hA4, hA3, hA2, hA1, hA0]; unfold txt prts; simp [hs, join3]) (by rw [hA4, hA3, hA2, hA1, hA0]; simp only [List.length_append, List.length_cons, List.length_nil]; omega)
  clear hA1 hA2 hA3 hA4
  have hM := of_decide_eq_false (sh_frm op (by omega)).2
  clear hA0 ln l1 l2 l3 l4 m1 m2 m3 hok hF hs
  have hq : (op == 3) = false := beq_eq_false_iff_ne.2 (by omega)
  by_cases hM1 : 10 ≤ op
  · have hM2 : ¬ op ≤ 14 := by omega
    clear hM
    go_enter Tryd.func10, Tryd.ntmps10
    go_wp2_with fail
    have HX0 : Hid (HeldX w op rd rs1 rs2 imm _) := HeldX.start w op rd rs1 rs2 imm 23
    refine (rright_any op rd rs1 rs2 imm _).mono ?_
    rintro e w1 ⟨he, hb⟩
    rw [HO.out] at he; subst he
    have HX : Hid (HeldX w op rd rs1 rs2 imm w1) := HX0.out.below hb
    clear hb HX0
    go_wp2_with fail
    go_region_held3 (fun w' => w'.cell? ⟨w.heap.size, 0, none⟩ = some (.int .i64 op) ∧ w'.cell? ⟨w.heap.size, 1, none⟩ = some (.int .i64 rd) ∧ w'.cell? ⟨w.heap.size, 2, none⟩ = some (.int .i64 rs1) ∧ w'.cell? ⟨w.heap.size, 3, none⟩ = some (.int .i64 rs2) ∧ w'.cell? ⟨w.heap.size, 4, none⟩ = some (.int .i64 imm) ∧ Below w.heap.size w w' ∧ w.heap.size < w'.heap.size)
      ((show HeldX w op rd rs1 rs2 imm _; with_reducible (repeat (first | assumption | exact HX.out | refine HeldX.drew ?_ | refine HeldX.alloc ?_ _))))
      (first
        | (go_at_call 26; refine (rnum_any _ (by assumption) (by assumption) _).mono ?_; rintro e w3 ⟨rfl, hk⟩; have hS : HeldX w op rd rs1 rs2 imm w3 := HeldX.below (by assumption) hk))
    obtain ⟨x0, x1, x2, x3, x4, hB, hlt⟩ := hS
    go_wp2_with fail
    refine (rname_any op _).mono ?_
    rintro e w4 ⟨rfl, hb⟩
    have hB4 := hB.trans (hb.mono (by omega))
    obtain ⟨x0, x1, x2, x3, x4, _, _⟩ := HeldX.below (⟨x0, x1, x2, x3, x4, hB, hlt⟩ : HeldX w op rd rs1 rs2 imm _) hb
    clear hb hB
    go_wp2_with fail
    refine (rform_to op 72 HFm.out _).mono ?_
    rintro e w5 ⟨rfl, hw⟩
    rw [hw]
    clear hw w5
    go_wp2_with fail
    go_ret2
    exact ⟨rfl, hB4⟩
  · clear hM
    go_enter Tryd.func10, Tryd.ntmps10
    go_wp2_with fail
    have HX0 : Hid (HeldX w op rd rs1 rs2 imm _) := HeldX.start w op rd rs1 rs2 imm 23
    refine (rright_any op rd rs1 rs2 imm _).mono ?_
    rintro e w1 ⟨he, hb⟩
    rw [HO.out] at he; subst he
    have HX : Hid (HeldX w op rd rs1 rs2 imm w1) := HX0.out.below hb
    clear hb HX0
    go_wp2_with fail
    go_region_held3 (fun w' => w'.cell? ⟨w.heap.size, 0, none⟩ = some (.int .i64 op) ∧ w'.cell? ⟨w.heap.size, 1, none⟩ = some (.int .i64 rd) ∧ w'.cell? ⟨w.heap.size, 2, none⟩ = some (.int .i64 rs1) ∧ w'.cell? ⟨w.heap.size, 3, none⟩ = some (.int .i64 rs2) ∧ w'.cell? ⟨w.heap.size, 4, none⟩ = some (.int .i64 imm) ∧ Below w.heap.size w w' ∧ w.heap.size < w'.heap.size)
      ((show HeldX w op rd rs1 rs2 imm _; with_reducible (repeat (first | assumption | exact HX.out | refine HeldX.drew ?_ | refine HeldX.alloc ?_ _))))
      (first
        | (go_at_call 26; refine (rnum_any _ (by assumption) (by assumption) _).mono ?_; rintro e w3 ⟨rfl, hk⟩; have hS : HeldX w op rd rs1 rs2 imm w3 := HeldX.below (by assumption) hk))
    obtain ⟨x0, x1, x2, x3, x4, hB, hlt⟩ := hS
    go_wp2_with fail
    refine (rname_any op _).mono ?_
    rintro e w4 ⟨rfl, hb⟩
    have hB4 := hB.trans (hb.mono (by omega))
    obtain ⟨x0, x1, x2, x3, x4, _, _⟩ := HeldX.below (⟨x0, x1, x2, x3, x4, hB, hlt⟩ : HeldX w op rd rs1 rs2 imm _) hb
    clear hb hB
    go_wp2_with fail
    refine (rform_to op 72 HFm.out _).mono ?_
    rintro e w5 ⟨rfl, hw⟩
    rw [hw]
    clear hw w5
    go_wp2_with fail
    go_ret2
    exact ⟨rfl, hB4⟩

set_option maxRecDepth 100000 in
set_option maxHeartbeats 4000000 in
theorem rprint_69 (op rd rs1 rs2 imm : Int) (hs : sh op = 69) (hok : (Ins.mk op rd rs1 rs2 imm).ok = true) (w : World) : Calls Tryd.prog 10 #[(Ins.mk op rd rs1 rs2 imm).val] w fun e w' => e = .returned (.tuple #[.string ⟨(txt ⟨op, rd, rs1, rs2, imm⟩).toArray⟩, .int .i64 0]) ∧ Below w.heap.size w w' := by
  have hF := fine_of hok
  obtain ⟨⟨hrd0, hrd1⟩, ⟨hrs10, hrs11⟩, ⟨hrs20, hrs21⟩, himm0, himm1⟩ := hF.sm
  simp only [] at hrd0 hrd1 hrs10 hrs11 hrs20 hrs21 himm0 himm1
  have HO : Hid (right op rd rs1 rs2 imm = true) := hok
  have HFm : Hid (69 = frm op) := by
    show _ = _
    rw [← (sh_frm op (by omega)).1, hs]
  have ln := name_len op
  have l1 := rg_len rd (by omega) (by omega)
  have l2 := rg_len rs1 (by omega) (by omega)
  have l3 := rg_len rs2 (by omega) (by omega)
  have l4 := Lib.itoa_length_le imm (by omega) (by omega)
  have m1 := Lib.itoa_length_le rd (by omega) (by omega)
  have m2 := Lib.itoa_length_le rs1 (by omega) (by omega)
  have m3 := Lib.itoa_length_le rs2 (by omega) (by omega)
  have cd := cat_to [120] (Lib.itoa rd) (rg rd) rfl (by simp only [List.length_cons, List.length_nil]; omega)
  have ca := cat_to [120] (Lib.itoa rs1) (rg rs1) rfl (by simp only [List.length_cons, List.length_nil]; omega)
  have cb := cat_to [120] (Lib.itoa rs2) (rg rs2) rfl (by simp only [List.length_cons, List.length_nil]; omega)
  obtain ⟨A0, hA0⟩ : ∃ A, A = name op ++ [32] := ⟨_, rfl⟩
  have c0 := cat_to (name op) [32] A0 hA0 (by simp only [List.length_cons, List.length_nil]; omega)
  have HT : txt ⟨op, rd, rs1, rs2, imm⟩ = name op := by unfold txt prts; simp [hs]
  rw [HT]
  clear HT
  clear hA0 ln l1 l2 l3 l4 m1 m2 m3 hok hF hs
  go_enter Tryd.func10, Tryd.ntmps10
  go_wp2_with fail
  have HX0 : Hid (HeldX w op rd rs1 rs2 imm _) := HeldX.start w op rd rs1 rs2 imm 23
  refine (rright_any op rd rs1 rs2 imm _).mono ?_
  rintro e w1 ⟨he, hb⟩
  rw [HO.out] at he; subst he
  have HX : Hid (HeldX w op rd rs1 rs2 imm w1) := HX0.out.below hb
  clear hb HX0
  go_wp2_with fail
  go_region_held3 (fun w' => w'.cell? ⟨w.heap.size, 0, none⟩ = some (.int .i64 op) ∧ w'.cell? ⟨w.heap.size, 1, none⟩ = some (.int .i64 rd) ∧ w'.cell? ⟨w.heap.size, 2, none⟩ = some (.int .i64 rs1) ∧ w'.cell? ⟨w.heap.size, 3, none⟩ = some (.int .i64 rs2) ∧ w'.cell? ⟨w.heap.size, 4, none⟩ = some (.int .i64 imm) ∧ Below w.heap.size w w' ∧ w.heap.size < w'.heap.size)
    ((show HeldX w op rd rs1 rs2 imm _; with_reducible (repeat (first | assumption | exact HX.out | refine HeldX.drew ?_ | refine HeldX.alloc ?_ _))))
    (first
      | (go_at_call 26; refine (rnum_any _ (by assumption) (by assumption) _).mono ?_; rintro e w3 ⟨rfl, hk⟩; have hS : HeldX w op rd rs1 rs2 imm w3 := HeldX.below (by assumption) hk))
  obtain ⟨x0, x1, x2, x3, x4, hB, hlt⟩ := hS
  go_wp2_with fail
  refine (rname_any op _).mono ?_
  rintro e w4 ⟨rfl, hb⟩
  have hB4 := hB.trans (hb.mono (by omega))
  obtain ⟨x0, x1, x2, x3, x4, _, _⟩ := HeldX.below (⟨x0, x1, x2, x3, x4, hB, hlt⟩ : HeldX w op rd rs1 rs2 imm _) hb
  clear hb hB
  go_wp2_with fail
  refine (rform_to op 69 HFm.out _).mono ?_
  rintro e w5 ⟨rfl, hw⟩
  rw [hw]
  clear hw w5
  go_wp2_with fail
  refine (rname_any op _).mono ?_
  rintro e w6 ⟨rfl, hb⟩
  have hB6 := hB4.trans (hb.mono hB4.size)
  go_wp2_with fail
  go_ret2
  exact ⟨rfl, hB6⟩

set_option maxRecDepth 100000 in
theorem rprint_no (op rd rs1 rs2 imm : Int) (hok : (Ins.mk op rd rs1 rs2 imm).ok = false) (w : World) : Calls Tryd.prog 10 #[(Ins.mk op rd rs1 rs2 imm).val] w fun e w' => e = .returned (.tuple #[.string ⟨#[]⟩, .int .i64 20]) ∧ Below w.heap.size w w' := by
  have HO : Hid (right op rd rs1 rs2 imm = false) := hok
  clear hok
  go_enter Tryd.func10, Tryd.ntmps10
  go_wp2_with fail
  refine (rright_any op rd rs1 rs2 imm _).mono ?_
  rintro e w1 ⟨he, hb⟩
  rw [HO.out] at he; subst he
  have hB : Below w.heap.size w w1 := ((Below.refl _ _).alloc (Nat.le_refl _) _).trans (hb.mono (by simp))
  clear hb
  go_wp2
  go_ret2
  exact ⟨rfl, hB⟩
theorem rprint_any (x : Ins) (w : World) : Calls Tryd.prog 10 #[x.val] w fun e w' => e = .returned (.tuple #[.string ⟨(prV x).toArray⟩, .int .i64 (prE x)]) ∧ Below w.heap.size w w' := by
  cases x with
  | mk op rd rs1 rs2 imm =>
  cases h : (Ins.mk op rd rs1 rs2 imm).ok
  · have e1 : prV ⟨op, rd, rs1, rs2, imm⟩ = [] := by unfold prV; rw [h]; rfl
    have e2 : prE ⟨op, rd, rs1, rs2, imm⟩ = 20 := by unfold prE; rw [h]; rfl
    rw [e1, e2]; exact rprint_no op rd rs1 rs2 imm h w
  · have e1 : prV ⟨op, rd, rs1, rs2, imm⟩ = txt ⟨op, rd, rs1, rs2, imm⟩ := by unfold prV; rw [h]; rfl
    have e2 : prE ⟨op, rd, rs1, rs2, imm⟩ = 0 := by unfold prE; rw [h]; rfl
    rw [e1, e2]
    rcases shape_of h with ⟨e, a, b⟩ | ⟨e, n⟩ | ⟨e, d⟩ | ⟨e, d⟩ | ⟨e, b⟩ | ⟨e, b⟩ | ⟨e, d, a, b, n⟩
    · rcases e with e | e
      · exact rprint_85 op rd rs1 rs2 imm e h w
      · exact rprint_74 op rd rs1 rs2 imm e h w
    · exact rprint_82 op rd rs1 rs2 imm e h w
    · exact rprint_66 op rd rs1 rs2 imm e h w
    · exact rprint_83 op rd rs1 rs2 imm e h w
    · exact rprint_77 op rd rs1 rs2 imm e h w
    · rcases e with e | e
      · exact rprint_73 op rd rs1 rs2 imm e h w
      · exact rprint_72 op rd rs1 rs2 imm e h w
    · exact rprint_69 op rd rs1 rs2 imm e h w
end Go.Proofs.YtdjladaefoedfaaDoor
