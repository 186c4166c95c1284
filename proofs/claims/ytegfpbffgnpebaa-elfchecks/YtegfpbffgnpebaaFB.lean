/-
  Contracts of the document's Bytes and Write.
-/
import Derived.Test.YtegfpbffgnpebaaFA
import Derived.Test.YtegfpbffgnpebaaEW
namespace Go.Proofs.Ytegfpbffgnpebaa
open Go.RowKit El Go.Lib
open Classical
set_option linter.unusedSimpArgs false

theorem byte_convB (b : Nat) (cc : UInt8) (w : World) (h : w.cell? ⟨b, 0, none⟩ = some (.int .u8 (cc.toNat : Int))) : (convert 40 9 (.slice (some ⟨b, 0, none⟩) 1 1)).run Try.prog w = .ok (.string ⟨#[cc]⟩) w := by
  refine run_convert_bytes_back (P := Try.prog) w 40 9 5 ⟨b, 0, none⟩ 1 [cc] Try.underlying40 Try.underlying5 Try.underlying9 fun j hj => ?_
  have hj0 : j = 0 := by simpa using hj
  subst hj0
  simpa [Addr.add] using h
theorem LookAt.drew {w W : World} {E F : Int} {v : Value} (h : LookAt w E F v W) : LookAt w E F v W.drew := h.below (Below.refl _ W).drew
set_option maxHeartbeats 1000000 in
theorem bytes_any (v n : Nat) (hv : v ≤ 4611686018427387904) (hn : n ≤ 100) (w : World) :
    Calls Try.prog 18 #[.int .i64 (v : Int), .int .i64 (n : Int)] w fun e w' => e = .returned (.string ⟨(numB n v).toArray⟩) ∧ Below w.heap.size w w' := by
  go_enter Try.func18, Try.ntmps18
  go_wp2_with fail
  go_loopg [0, 5, 6] n (fun q u s i wr => ∃ (k x : Nat) (l : List UInt8), k + q = n ∧ i = .int .i64 (k : Int) ∧ u = .int .i64 (x : Int) ∧ x ≤ 4611686018427387904 ∧ s = .string ⟨l.toArray⟩ ∧ l.length = k ∧ Below w.heap.size w wr ∧ numB n v = l ++ numB q x)
  case atStart => exact ⟨0, v, [], by omega, rfl, rfl, hv, rfl, rfl, Below.refl _ _, rfl⟩
  case round =>
    obtain ⟨k, x, l, hkq, rfl, rfl, hx, rfl, hl, hb, he⟩ := hrel
    have He := hideE he
    have HB := hideE hb
    clear he hb
    cases gk with
    | zero =>
      obtain rfl : k = n := by omega
      have hk : ¬ ((k : Int) < (k : Int)) := by omega
      go_wp2_with fail
      go_ret
      refine ⟨?_, HB.out⟩
      rw [He.out]
      simp [numB]
    | succ q =>
      have hk : ((k : Int) < (n : Int)) := by omega
      have hwk : IntKind.i64.wrap ((k : Int) + 1) = (k : Int) + 1 := wrE (by omega) (by omega)
      have hrm : (x : Int).tmod 256 = ((b1 x).toNat : Int) := by rw [Int.tmod_eq_emod_of_nonneg (by omega), b1_toNat]; omega
      have hdv : (x : Int).tdiv 256 = ((x / 256 : Nat) : Int) := by rw [Int.tdiv_eq_ediv_of_nonneg (by omega)]; omega
      obtain ⟨cc, hcc⟩ : ∃ cc, cc = b1 x := ⟨_, rfl⟩
      have hcl := cc.toNat_lt
      rw [← hcc] at hrm
      have hcv := fun (W : World) => byte_convB W.heap.size cc (W.alloc (.cells #[.int .u8 (cc.toNat : Int)] 5)) (alloc_cell _ _ _)
      obtain ⟨l', hl'⟩ : ∃ l', l' = l ++ [cc] := ⟨_, rfl⟩
      have hcat : (⟨l.toArray⟩ : ByteArray) ++ ⟨#[cc]⟩ = ⟨l'.toArray⟩ := by rw [hl']; exact cat_lists _ _
      have hlm : ¬ (9223372036854775807 < l.length + 1) := by omega
      obtain ⟨x', hx'⟩ : ∃ x' : Nat, x' = x / 256 := ⟨_, rfl⟩
      rw [← hx'] at hdv
      have hwx : wrap64 (x' : Int) = (x' : Int) := by unfold wrap64; omega
      have Hx' := hideE hx'
      have Hl' := hideE hl'
      have Hcc := hideE hcc
      clear hx' hl' hcc
      go_wp2_with fail
      go_roundg q
      case measure => omega
      case rel => exact ⟨k + 1, x', l', by omega, by simp, by first | rfl | rw [hwx], by rw [Hx'.out]; omega, rfl, by rw [Hl'.out, List.length_append]; simp; omega, HB.out.alloc HB.out.size _, by rw [He.out, numB, Hx'.out, Hl'.out, Hcc.out, List.append_assoc]; rfl⟩
theorem bytes_at (i : Int) (v n : Nat) (hi : i = (v : Int)) (hv : v ≤ 4611686018427387904) (hn : n ≤ 100) (w : World) :
    Calls Try.prog 18 #[.int .i64 i, .int .i64 (n : Int)] w fun e w' => e = .returned (.string ⟨(numB n v).toArray⟩) ∧ Below w.heap.size w w' := by subst hi; exact bytes_any v n hv hn w
theorem InLook.drew {w W : World} {E F : Int} {v : Value} {b : Nat} {y : Seg} (h : InLook w E F v b y W) : InLook w E F v b y W.drew := h.below (Below.refl _ W).drew
theorem datas_app (l r : List Seg) : datas (l ++ r) = datas l ++ datas r := by simp [datas]
theorem rows_app (l : List Seg) (g : Seg) (p : Nat) : rows (l ++ [g]) p = rows l p ++ row g (p + (datas l).length) := by
  induction l generalizing p with
  | nil => simp [rows, datas]
  | cons a r ih => rw [List.cons_append, rows, rows, ih, datas_cons, List.length_append, List.append_assoc, Nat.add_assoc]
theorem head_bytes (x : Prg) : El.mark ++ numB 9 0 ++ numB 2 2 ++ numB 2 243 ++ numB 4 1 ++ numB 4 x.entry.toNat ++ numB 4 52 ++ numB 4 0 ++ numB 4 x.flags.toNat ++ numB 2 52 ++ numB 2 32 ++ numB 2 x.segs.length ++ numB 6 0 = head x := by
  have e1 : numB 9 0 = zeros 9 := by decide
  have e2 : numB 2 2 ++ (numB 2 243 ++ numB 4 1) = El.kind := by decide
  have e3 : numB 2 52 ++ numB 2 32 = El.sizes := by decide
  have e4 : numB 6 0 = zeros 6 := by decide
  unfold head
  rw [← e1, ← e2, ← e3, ← e4, ← numB_four, ← numB_four, ← numB_four, ← numB_four, ← numB_two]
  simp only [List.append_assoc]
theorem row_bytes (y : Seg) (P N Fl : Nat) (hN : y.size = (N : Int)) (hF : y.flags = (Fl : Int)) : numB 4 1 ++ numB 4 P ++ numB 4 y.addr.toNat ++ numB 4 y.addr.toNat ++ numB 4 y.data.length ++ numB 4 N ++ numB 4 Fl ++ numB 4 4 = row y P := by
  unfold row
  rw [hN, hF, Int.toNat_natCast, Int.toNat_natCast]
  simp only [numB_four, List.append_assoc]
set_option maxRecDepth 100000 in
set_option maxHeartbeats 4000000 in
theorem rwrite_any (x : Prg) (v : Value) (hl : x.segs.length ≤ 18) (hd : (datas x.segs).length ≤ 3600) (w : World) (hS : SlS w v x.segs) :
    Calls Try.prog 11 #[prgV x v] w fun e w' => e = .returned (.tuple #[.string ⟨(wrV x).toArray⟩, .int .i64 (chk x.segs)]) ∧ Below w.heap.size w w' := by
  obtain ⟨p, c, rfl, _⟩ := hS.len
  have L0 := LookAt.new w (x.entry.toNat : Int) (x.flags.toNat : Int) (.slice p x.segs.length c)
  have HC := hideE (rcheck_any x (.slice p x.segs.length c) (by omega) _ (hS.below L0.low))
  have HL0 := hideE L0
  have HS := hideE hS
  unfold prgV at *
  clear hS L0
  go_enter Try.func11, Try.ntmps11
  go_wp2_with fail
  refine HC.out.mono ?_
  rintro e w1 ⟨rfl, hb1⟩
  have HL := hideE (HL0.out.below hb1)
  clear hb1 HC HL0
  by_cases h0 : chk x.segs = 0
  · have hv : wrV x = El.wr x := by unfold wrV; rw [if_pos h0]
    rw [h0]
    have Hv := hideE hv
    have H0 := hideE h0
    have hmay := (chk_zero h0).2.1
    have HM := hideE hmay
    have hEl := x.entry.isLt
    have hFl := x.flags.isLt
    have nl := numB_len
    have hwe : IntKind.i64.wrap (x.entry.toNat : Int) = (x.entry.toNat : Int) := wrE (by omega) (by omega)
    have hwf : IntKind.i64.wrap (x.flags.toNat : Int) = (x.flags.toNat : Int) := wrE (by omega) (by omega)
    obtain ⟨A0, hA0⟩ : ∃ A, A = El.mark := ⟨_, rfl⟩
    have L0 : A0.length = 7 := by rw [hA0]; rfl
    obtain ⟨A1, hA1⟩ : ∃ A, A = A0 ++ numB 9 0 := ⟨_, rfl⟩
    have c0 : (⟨A0.toArray⟩ : ByteArray) ++ ⟨(numB 9 0).toArray⟩ = ⟨A1.toArray⟩ := by rw [hA1]; exact cat_lists _ _
    have l0 : ¬ (9223372036854775807 < A0.length + 9) := by omega
    have L1 : A1.length = 16 := by rw [hA1, List.length_append, numB_len, L0]
    obtain ⟨A2, hA2⟩ : ∃ A, A = A1 ++ numB 2 2 := ⟨_, rfl⟩
    have c1 : (⟨A1.toArray⟩ : ByteArray) ++ ⟨(numB 2 2).toArray⟩ = ⟨A2.toArray⟩ := by rw [hA2]; exact cat_lists _ _
    have l1 : ¬ (9223372036854775807 < A1.length + 2) := by omega
    have L2 : A2.length = 18 := by rw [hA2, List.length_append, numB_len, L1]
    obtain ⟨A3, hA3⟩ : ∃ A, A = A2 ++ numB 2 243 := ⟨_, rfl⟩
    have c2 : (⟨A2.toArray⟩ : ByteArray) ++ ⟨(numB 2 243).toArray⟩ = ⟨A3.toArray⟩ := by rw [hA3]; exact cat_lists _ _
    have l2 : ¬ (9223372036854775807 < A2.length + 2) := by omega
    have L3 : A3.length = 20 := by rw [hA3, List.length_append, numB_len, L2]
    obtain ⟨A4, hA4⟩ : ∃ A, A = A3 ++ numB 4 1 := ⟨_, rfl⟩
    have c3 : (⟨A3.toArray⟩ : ByteArray) ++ ⟨(numB 4 1).toArray⟩ = ⟨A4.toArray⟩ := by rw [hA4]; exact cat_lists _ _
    have l3 : ¬ (9223372036854775807 < A3.length + 4) := by omega
    have L4 : A4.length = 24 := by rw [hA4, List.length_append, numB_len, L3]
    obtain ⟨A5, hA5⟩ : ∃ A, A = A4 ++ numB 4 (x.entry.toNat) := ⟨_, rfl⟩
    have c4 : (⟨A4.toArray⟩ : ByteArray) ++ ⟨(numB 4 (x.entry.toNat)).toArray⟩ = ⟨A5.toArray⟩ := by rw [hA5]; exact cat_lists _ _
    have l4 : ¬ (9223372036854775807 < A4.length + 4) := by omega
    have L5 : A5.length = 28 := by rw [hA5, List.length_append, numB_len, L4]
    obtain ⟨A6, hA6⟩ : ∃ A, A = A5 ++ numB 4 52 := ⟨_, rfl⟩
    have c5 : (⟨A5.toArray⟩ : ByteArray) ++ ⟨(numB 4 52).toArray⟩ = ⟨A6.toArray⟩ := by rw [hA6]; exact cat_lists _ _
    have l5 : ¬ (9223372036854775807 < A5.length + 4) := by omega
    have L6 : A6.length = 32 := by rw [hA6, List.length_append, numB_len, L5]
    obtain ⟨A7, hA7⟩ : ∃ A, A = A6 ++ numB 4 0 := ⟨_, rfl⟩
    have c6 : (⟨A6.toArray⟩ : ByteArray) ++ ⟨(numB 4 0).toArray⟩ = ⟨A7.toArray⟩ := by rw [hA7]; exact cat_lists _ _
    have l6 : ¬ (9223372036854775807 < A6.length + 4) := by omega
    have L7 : A7.length = 36 := by rw [hA7, List.length_append, numB_len, L6]
    obtain ⟨A8, hA8⟩ : ∃ A, A = A7 ++ numB 4 (x.flags.toNat) := ⟨_, rfl⟩
    have c7 : (⟨A7.toArray⟩ : ByteArray) ++ ⟨(numB 4 (x.flags.toNat)).toArray⟩ = ⟨A8.toArray⟩ := by rw [hA8]; exact cat_lists _ _
    have l7 : ¬ (9223372036854775807 < A7.length + 4) := by omega
    have L8 : A8.length = 40 := by rw [hA8, List.length_append, numB_len, L7]
    obtain ⟨A9, hA9⟩ : ∃ A, A = A8 ++ numB 2 52 := ⟨_, rfl⟩
    have c8 : (⟨A8.toArray⟩ : ByteArray) ++ ⟨(numB 2 52).toArray⟩ = ⟨A9.toArray⟩ := by rw [hA9]; exact cat_lists _ _
    have l8 : ¬ (9223372036854775807 < A8.length + 2) := by omega
    have L9 : A9.length = 42 := by rw [hA9, List.length_append, numB_len, L8]
    obtain ⟨A10, hA10⟩ : ∃ A, A = A9 ++ numB 2 32 := ⟨_, rfl⟩
    have c9 : (⟨A9.toArray⟩ : ByteArray) ++ ⟨(numB 2 32).toArray⟩ = ⟨A10.toArray⟩ := by rw [hA10]; exact cat_lists _ _
    have l9 : ¬ (9223372036854775807 < A9.length + 2) := by omega
    have L10 : A10.length = 44 := by rw [hA10, List.length_append, numB_len, L9]
    obtain ⟨A11, hA11⟩ : ∃ A, A = A10 ++ numB 2 (x.segs.length) := ⟨_, rfl⟩
    have c10 : (⟨A10.toArray⟩ : ByteArray) ++ ⟨(numB 2 (x.segs.length)).toArray⟩ = ⟨A11.toArray⟩ := by rw [hA11]; exact cat_lists _ _
    have l10 : ¬ (9223372036854775807 < A10.length + 2) := by omega
    have L11 : A11.length = 46 := by rw [hA11, List.length_append, numB_len, L10]
    obtain ⟨A12, hA12⟩ : ∃ A, A = A11 ++ numB 6 0 := ⟨_, rfl⟩
    have c11 : (⟨A11.toArray⟩ : ByteArray) ++ ⟨(numB 6 0).toArray⟩ = ⟨A12.toArray⟩ := by rw [hA12]; exact cat_lists _ _
    have l11 : ¬ (9223372036854775807 < A11.length + 6) := by omega
    have L12 : A12.length = 52 := by rw [hA12, List.length_append, numB_len, L11]
    have c0' : (⟨#[127, 69, 76, 70, 1, 1, 1]⟩ : ByteArray) ++ ⟨(numB 9 0).toArray⟩ = ⟨A1.toArray⟩ := by rw [← c0, hA0]; rfl
    have HD : Hid (A12 = head x) := by
      show A12 = head x
      rw [← head_bytes, hA12, hA11, hA10, hA9, hA8, hA7, hA6, hA5, hA4, hA3, hA2, hA1, hA0]
    clear hA12 hA11 hA10 hA9 hA8 hA7 hA6 hA5 hA4 hA3 hA2 hA1 hA0 c0 L0 L1 L2 L3 L4 L5 L6 L7 L8 L9 L10 L11 hmay hv h0
    go_wp2_with fail
    refine wp_region_noPanic ?_
    refine wp_region_held_drew (S := LookAt w (x.entry.toNat : Int) (x.flags.toNat : Int) (.slice p x.segs.length c)) (by kernel_rfl) HL.out.drew (fun h0 => ?_)
    refine wpAnyH_takeAt (i := 8) (v := ?_) rfl (by kernel_rfl) (by kernel_rfl) (by kernel_rfl) (fun _ _ _ h => h) (Or.inl ⟨by rfl, ?_⟩) h0 ?_
    rotate_left 1
    · intro w' hS; have y0 := (three hS.box).1.1; have y1 := (three hS.box).1.2.1; have y2 := (three hS.box).1.2.2; clear hS
      go_simp <;> with_reducible rfl
    try simp only [Act.put, List.setIfInBounds_toArray, List.set_cons_zero, List.set_cons_succ]
    refine wpAnyH_takeAt (i := 9) (v := ?_) rfl (by kernel_rfl) (by kernel_rfl) (by kernel_rfl) (fun _ _ _ h => h) (Or.inl ⟨by rfl, ?_⟩) h0 ?_
    rotate_left 1
    · intro w' hS; have y0 := (three hS.box).1.1; have y1 := (three hS.box).1.2.1; have y2 := (three hS.box).1.2.2; clear hS
      go_simp <;> with_reducible rfl
    try simp only [Act.put, List.setIfInBounds_toArray, List.set_cons_zero, List.set_cons_succ]
    refine wpAnyH_takeAt (i := 10) (v := .int .i64 (x.entry.toNat : Int)) rfl (by kernel_rfl) (by kernel_rfl) (by kernel_rfl) (fun _ _ _ h => h) (Or.inl ⟨by rfl, ?_⟩) h0 ?_
    · intro w' hS; clear hS
      go_simp
    try simp only [Act.put, List.setIfInBounds_toArray, List.set_cons_zero, List.set_cons_succ]
    refine wpAnyH_takeAt (i := 17) (v := ?_) rfl (by kernel_rfl) (by kernel_rfl) (by kernel_rfl) (fun _ _ _ h => h) (Or.inl ⟨by rfl, ?_⟩) h0 ?_
    rotate_left 1
    · intro w' hS; have y0 := (three hS.box).1.1; have y1 := (three hS.box).1.2.1; have y2 := (three hS.box).1.2.2; clear hS
      go_simp <;> with_reducible rfl
    try simp only [Act.put, List.setIfInBounds_toArray, List.set_cons_zero, List.set_cons_succ]
    refine wpAnyH_takeAt (i := 18) (v := ?_) rfl (by kernel_rfl) (by kernel_rfl) (by kernel_rfl) (fun _ _ _ h => h) (Or.inl ⟨by rfl, ?_⟩) h0 ?_
    rotate_left 1
    · intro w' hS; have y0 := (three hS.box).1.1; have y1 := (three hS.box).1.2.1; have y2 := (three hS.box).1.2.2; clear hS
      go_simp <;> with_reducible rfl
    try simp only [Act.put, List.setIfInBounds_toArray, List.set_cons_zero, List.set_cons_succ]
    refine wpAnyH_takeAt (i := 19) (v := .int .i64 (x.flags.toNat : Int)) rfl (by kernel_rfl) (by kernel_rfl) (by kernel_rfl) (fun _ _ _ h => h) (Or.inl ⟨by rfl, ?_⟩) h0 ?_
    · intro w' hS; clear hS
      go_simp
    try simp only [Act.put, List.setIfInBounds_toArray, List.set_cons_zero, List.set_cons_succ]
    refine wpAnyH_takeAt (i := 26) (v := ?_) rfl (by kernel_rfl) (by kernel_rfl) (by kernel_rfl) (fun _ _ _ h => h) (Or.inl ⟨by rfl, ?_⟩) h0 ?_
    rotate_left 1
    · intro w' hS; have y0 := (three hS.box).1.1; have y1 := (three hS.box).1.2.1; have y2 := (three hS.box).1.2.2; clear hS
      go_simp <;> with_reducible rfl
    try simp only [Act.put, List.setIfInBounds_toArray, List.set_cons_zero, List.set_cons_succ]
    refine wpAnyH_takeAt (i := 27) (v := ?_) rfl (by kernel_rfl) (by kernel_rfl) (by kernel_rfl) (fun _ _ _ h => h) (Or.inl ⟨by rfl, ?_⟩) h0 ?_
    rotate_left 1
    · intro w' hS; have y0 := (three hS.box).1.1; have y1 := (three hS.box).1.2.1; have y2 := (three hS.box).1.2.2; clear hS
      go_simp <;> with_reducible rfl
    try simp only [Act.put, List.setIfInBounds_toArray, List.set_cons_zero, List.set_cons_succ]
    refine wpAnyH_takeAt (i := 28) (v := ?_) rfl (by kernel_rfl) (by kernel_rfl) (by kernel_rfl) (fun _ _ _ h => h) (Or.inl ⟨by rfl, ?_⟩) h0 ?_
    rotate_left 1
    · intro w' hS; have y0 := (three hS.box).1.1; have y1 := (three hS.box).1.2.1; have y2 := (three hS.box).1.2.2; clear hS
      go_simp <;> with_reducible rfl
    try simp only [Act.put, List.setIfInBounds_toArray, List.set_cons_zero, List.set_cons_succ]
    refine wpAnyH_ready (rs := [0]) (by kernel_rfl) (by simp) (allReady_at rfl (fun K hK => ?_))
    go_simp
    refine (bytes_at _ 0 9 (by first | rfl | omega) (by omega) (by omega) _).mono ?_
    rintro e v0 ⟨rfl, hbv0⟩
    dsimp only
    have k0 : LookAt w (x.entry.toNat : Int) (x.flags.toNat : Int) (.slice p x.segs.length c) v0 := h0.below hbv0
    refine hK.out _ _ k0 (fun _ => ?_)
    clear hK K
    try simp only [Act.put, List.setIfInBounds_toArray, List.set_cons_zero, List.set_cons_succ]
    refine wpAnyH_takeAt (i := 1) (v := .string ⟨A1.toArray⟩) rfl (by kernel_rfl) (by kernel_rfl) (by kernel_rfl) (fun _ _ _ h => h) (Or.inl ⟨by rfl, ?_⟩) k0 ?_
    · intro w' hS; clear hS
      go_simp
    try simp only [Act.put, List.setIfInBounds_toArray, List.set_cons_zero, List.set_cons_succ]
    refine wpAnyH_ready (rs := [2]) (by kernel_rfl) (by simp) (allReady_at rfl (fun K hK => ?_))
    go_simp
    refine (bytes_at _ 2 2 (by first | rfl | omega) (by omega) (by omega) _).mono ?_
    rintro e v1 ⟨rfl, hbv1⟩
    dsimp only
    have k1 : LookAt w (x.entry.toNat : Int) (x.flags.toNat : Int) (.slice p x.segs.length c) v1 := k0.below hbv1
    refine hK.out _ _ k1 (fun _ => ?_)
    clear hK K
    try simp only [Act.put, List.setIfInBounds_toArray, List.set_cons_zero, List.set_cons_succ]
    refine wpAnyH_takeAt (i := 3) (v := .string ⟨A2.toArray⟩) rfl (by kernel_rfl) (by kernel_rfl) (by kernel_rfl) (fun _ _ _ h => h) (Or.inl ⟨by rfl, ?_⟩) k1 ?_
    · intro w' hS; clear hS
      go_simp
    try simp only [Act.put, List.setIfInBounds_toArray, List.set_cons_zero, List.set_cons_succ]
    refine wpAnyH_ready (rs := [4]) (by kernel_rfl) (by simp) (allReady_at rfl (fun K hK => ?_))
    go_simp
    refine (bytes_at _ 243 2 (by first | rfl | omega) (by omega) (by omega) _).mono ?_
    rintro e v2 ⟨rfl, hbv2⟩
    dsimp only
    have k2 : LookAt w (x.entry.toNat : Int) (x.flags.toNat : Int) (.slice p x.segs.length c) v2 := k1.below hbv2
    refine hK.out _ _ k2 (fun _ => ?_)
    clear hK K
    try simp only [Act.put, List.setIfInBounds_toArray, List.set_cons_zero, List.set_cons_succ]
    refine wpAnyH_takeAt (i := 5) (v := .string ⟨A3.toArray⟩) rfl (by kernel_rfl) (by kernel_rfl) (by kernel_rfl) (fun _ _ _ h => h) (Or.inl ⟨by rfl, ?_⟩) k2 ?_
    · intro w' hS; clear hS
      go_simp
    try simp only [Act.put, List.setIfInBounds_toArray, List.set_cons_zero, List.set_cons_succ]
    refine wpAnyH_ready (rs := [6]) (by kernel_rfl) (by simp) (allReady_at rfl (fun K hK => ?_))
    go_simp
    refine (bytes_at _ 1 4 (by first | rfl | omega) (by omega) (by omega) _).mono ?_
    rintro e v3 ⟨rfl, hbv3⟩
    dsimp only
    have k3 : LookAt w (x.entry.toNat : Int) (x.flags.toNat : Int) (.slice p x.segs.length c) v3 := k2.below hbv3
    refine hK.out _ _ k3 (fun _ => ?_)
    clear hK K
    try simp only [Act.put, List.setIfInBounds_toArray, List.set_cons_zero, List.set_cons_succ]
    refine wpAnyH_takeAt (i := 7) (v := .string ⟨A4.toArray⟩) rfl (by kernel_rfl) (by kernel_rfl) (by kernel_rfl) (fun _ _ _ h => h) (Or.inl ⟨by rfl, ?_⟩) k3 ?_
    · intro w' hS; clear hS
      go_simp
    try simp only [Act.put, List.setIfInBounds_toArray, List.set_cons_zero, List.set_cons_succ]
    refine wpAnyH_ready (rs := [11]) (by kernel_rfl) (by simp) (allReady_at rfl (fun K hK => ?_))
    go_simp
    refine (bytes_at _ x.entry.toNat 4 (rfl) (by omega) (by omega) _).mono ?_
    rintro e v4 ⟨rfl, hbv4⟩
    dsimp only
    have k4 : LookAt w (x.entry.toNat : Int) (x.flags.toNat : Int) (.slice p x.segs.length c) v4 := k3.below hbv4
    refine hK.out _ _ k4 (fun _ => ?_)
    clear hK K
    try simp only [Act.put, List.setIfInBounds_toArray, List.set_cons_zero, List.set_cons_succ]
    refine wpAnyH_takeAt (i := 12) (v := .string ⟨A5.toArray⟩) rfl (by kernel_rfl) (by kernel_rfl) (by kernel_rfl) (fun _ _ _ h => h) (Or.inl ⟨by rfl, ?_⟩) k4 ?_
    · intro w' hS; clear hS
      go_simp
    try simp only [Act.put, List.setIfInBounds_toArray, List.set_cons_zero, List.set_cons_succ]
    refine wpAnyH_ready (rs := [13]) (by kernel_rfl) (by simp) (allReady_at rfl (fun K hK => ?_))
    go_simp
    refine (bytes_at _ 52 4 (by first | rfl | omega) (by omega) (by omega) _).mono ?_
    rintro e v5 ⟨rfl, hbv5⟩
    dsimp only
    have k5 : LookAt w (x.entry.toNat : Int) (x.flags.toNat : Int) (.slice p x.segs.length c) v5 := k4.below hbv5
    refine hK.out _ _ k5 (fun _ => ?_)
    clear hK K
    try simp only [Act.put, List.setIfInBounds_toArray, List.set_cons_zero, List.set_cons_succ]
    refine wpAnyH_takeAt (i := 14) (v := .string ⟨A6.toArray⟩) rfl (by kernel_rfl) (by kernel_rfl) (by kernel_rfl) (fun _ _ _ h => h) (Or.inl ⟨by rfl, ?_⟩) k5 ?_
    · intro w' hS; clear hS
      go_simp
    try simp only [Act.put, List.setIfInBounds_toArray, List.set_cons_zero, List.set_cons_succ]
    refine wpAnyH_ready (rs := [15]) (by kernel_rfl) (by simp) (allReady_at rfl (fun K hK => ?_))
    go_simp
    refine (bytes_at _ 0 4 (by first | rfl | omega) (by omega) (by omega) _).mono ?_
    rintro e v6 ⟨rfl, hbv6⟩
    dsimp only
    have k6 : LookAt w (x.entry.toNat : Int) (x.flags.toNat : Int) (.slice p x.segs.length c) v6 := k5.below hbv6
    refine hK.out _ _ k6 (fun _ => ?_)
    clear hK K
    try simp only [Act.put, List.setIfInBounds_toArray, List.set_cons_zero, List.set_cons_succ]
    refine wpAnyH_takeAt (i := 16) (v := .string ⟨A7.toArray⟩) rfl (by kernel_rfl) (by kernel_rfl) (by kernel_rfl) (fun _ _ _ h => h) (Or.inl ⟨by rfl, ?_⟩) k6 ?_
    · intro w' hS; clear hS
      go_simp
    try simp only [Act.put, List.setIfInBounds_toArray, List.set_cons_zero, List.set_cons_succ]
    refine wpAnyH_ready (rs := [20]) (by kernel_rfl) (by simp) (allReady_at rfl (fun K hK => ?_))
    go_simp
    refine (bytes_at _ x.flags.toNat 4 (rfl) (by omega) (by omega) _).mono ?_
    rintro e v7 ⟨rfl, hbv7⟩
    dsimp only
    have k7 : LookAt w (x.entry.toNat : Int) (x.flags.toNat : Int) (.slice p x.segs.length c) v7 := k6.below hbv7
    refine hK.out _ _ k7 (fun _ => ?_)
    clear hK K
    try simp only [Act.put, List.setIfInBounds_toArray, List.set_cons_zero, List.set_cons_succ]
    refine wpAnyH_takeAt (i := 21) (v := .string ⟨A8.toArray⟩) rfl (by kernel_rfl) (by kernel_rfl) (by kernel_rfl) (fun _ _ _ h => h) (Or.inl ⟨by rfl, ?_⟩) k7 ?_
    · intro w' hS; clear hS
      go_simp
    try simp only [Act.put, List.setIfInBounds_toArray, List.set_cons_zero, List.set_cons_succ]
    refine wpAnyH_ready (rs := [22]) (by kernel_rfl) (by simp) (allReady_at rfl (fun K hK => ?_))
    go_simp
    refine (bytes_at _ 52 2 (by first | rfl | omega) (by omega) (by omega) _).mono ?_
    rintro e v8 ⟨rfl, hbv8⟩
    dsimp only
    have k8 : LookAt w (x.entry.toNat : Int) (x.flags.toNat : Int) (.slice p x.segs.length c) v8 := k7.below hbv8
    refine hK.out _ _ k8 (fun _ => ?_)
    clear hK K
    try simp only [Act.put, List.setIfInBounds_toArray, List.set_cons_zero, List.set_cons_succ]
    refine wpAnyH_takeAt (i := 23) (v := .string ⟨A9.toArray⟩) rfl (by kernel_rfl) (by kernel_rfl) (by kernel_rfl) (fun _ _ _ h => h) (Or.inl ⟨by rfl, ?_⟩) k8 ?_
    · intro w' hS; clear hS
      go_simp
    try simp only [Act.put, List.setIfInBounds_toArray, List.set_cons_zero, List.set_cons_succ]
    refine wpAnyH_ready (rs := [24]) (by kernel_rfl) (by simp) (allReady_at rfl (fun K hK => ?_))
    go_simp
    refine (bytes_at _ 32 2 (by first | rfl | omega) (by omega) (by omega) _).mono ?_
    rintro e v9 ⟨rfl, hbv9⟩
    dsimp only
    have k9 : LookAt w (x.entry.toNat : Int) (x.flags.toNat : Int) (.slice p x.segs.length c) v9 := k8.below hbv9
    refine hK.out _ _ k9 (fun _ => ?_)
    clear hK K
    try simp only [Act.put, List.setIfInBounds_toArray, List.set_cons_zero, List.set_cons_succ]
    refine wpAnyH_takeAt (i := 25) (v := .string ⟨A10.toArray⟩) rfl (by kernel_rfl) (by kernel_rfl) (by kernel_rfl) (fun _ _ _ h => h) (Or.inl ⟨by rfl, ?_⟩) k9 ?_
    · intro w' hS; clear hS
      go_simp
    try simp only [Act.put, List.setIfInBounds_toArray, List.set_cons_zero, List.set_cons_succ]
    refine wpAnyH_ready (rs := [29]) (by kernel_rfl) (by simp) (allReady_at rfl (fun K hK => ?_))
    go_simp
    refine (bytes_at _ x.segs.length 2 (rfl) (by omega) (by omega) _).mono ?_
    rintro e v10 ⟨rfl, hbv10⟩
    dsimp only
    have k10 : LookAt w (x.entry.toNat : Int) (x.flags.toNat : Int) (.slice p x.segs.length c) v10 := k9.below hbv10
    refine hK.out _ _ k10 (fun _ => ?_)
    clear hK K
    try simp only [Act.put, List.setIfInBounds_toArray, List.set_cons_zero, List.set_cons_succ]
    refine wpAnyH_takeAt (i := 30) (v := .string ⟨A11.toArray⟩) rfl (by kernel_rfl) (by kernel_rfl) (by kernel_rfl) (fun _ _ _ h => h) (Or.inl ⟨by rfl, ?_⟩) k10 ?_
    · intro w' hS; clear hS
      go_simp
    try simp only [Act.put, List.setIfInBounds_toArray, List.set_cons_zero, List.set_cons_succ]
    refine wpAnyH_ready (rs := [31]) (by kernel_rfl) (by simp) (allReady_at rfl (fun K hK => ?_))
    go_simp
    refine (bytes_at _ 0 6 (by first | rfl | omega) (by omega) (by omega) _).mono ?_
    rintro e v11 ⟨rfl, hbv11⟩
    dsimp only
    have k11 : LookAt w (x.entry.toNat : Int) (x.flags.toNat : Int) (.slice p x.segs.length c) v11 := k10.below hbv11
    refine hK.out _ _ k11 (fun _ => ?_)
    clear hK K
    try simp only [Act.put, List.setIfInBounds_toArray, List.set_cons_zero, List.set_cons_succ]
    refine wpAnyH_takeAt (i := 32) (v := .string ⟨A12.toArray⟩) rfl (by kernel_rfl) (by kernel_rfl) (by kernel_rfl) (fun _ _ _ h => h) (Or.inl ⟨by rfl, ?_⟩) k11 ?_
    · intro w' hS; clear hS
      go_simp
    try simp only [Act.put, List.setIfInBounds_toArray, List.set_cons_zero, List.set_cons_succ]
    refine wpAnyH_takeAt (i := 33) (v := ?_) rfl (by kernel_rfl) (by kernel_rfl) (by kernel_rfl) (fun _ _ _ h => h) (Or.inl ⟨by rfl, ?_⟩) k11 ?_
    rotate_left 1
    · intro w' hS; clear hS
      go_simp <;> with_reducible rfl
    try simp only [Act.put, List.setIfInBounds_toArray, List.set_cons_zero, List.set_cons_succ]
    refine wpAnyH_done (by kernel_rfl) ?_ _
    refine NoPanic.normal ?_
    have HK := hideE k11
    clear hbv0 hbv1 hbv2 hbv3 hbv4 hbv5 hbv6 hbv7 hbv8 hbv9 hbv10 hbv11 k0 k1 k2 k3 k4 k5 k6 k7 k8 k9 k10 k11 c0' c1 c2 c3 c4 c5 c6 c7 c8 c9 c10 c11 l0 l1 l2 l3 l4 l5 l6 l7 l8 l9 l10 l11 h0 HL nl hwe hwf
    go_wp2_with fail
    go_loopg [5, 6, 7] x.segs.length (fun q s a i wr => ∃ (k : Nat) (S D : List UInt8), k + q = x.segs.length ∧ i = .int .i64 (k : Int) ∧ s = .string ⟨S.toArray⟩ ∧ a = .string ⟨D.toArray⟩ ∧ S = head x ++ rows (x.segs.take k) (52 + 32 * x.segs.length) ∧ D = datas (x.segs.take k) ∧ LookAt w (x.entry.toNat : Int) (x.flags.toNat : Int) (.slice p x.segs.length c) wr)
    case atStart => exact ⟨0, A12, [], by omega, rfl, rfl, rfl, by rw [HD.out]; simp [rows], rfl, HK.out⟩
    case round =>
      clear HK HD L12
      obtain ⟨k, S, D, hkq, rfl, rfl, rfl, hSe, hDe, hL⟩ := hrel
      obtain ⟨⟨a0, a1, a2⟩, _⟩ := three hL.box
      have hSl : S.length = 52 + 32 * k := by rw [hSe, List.length_append, head_len, rows_len, List.length_take]; omega
      have HSe := hideE hSe
      have HDe := hideE hDe
      clear hSe hDe
      cases gk with
      | zero =>
        obtain rfl : k = x.segs.length := by omega
        have hk : ¬ ((x.segs.length : Int) < (x.segs.length : Int)) := by omega
        have hDl : D.length ≤ 3600 := by rw [HDe.out, List.take_length]; exact hd
        have hcat : (⟨S.toArray⟩ : ByteArray) ++ ⟨D.toArray⟩ = ⟨(El.wr x).toArray⟩ := by
          rw [cat_lists, HSe.out, HDe.out, List.take_length, El.wr, List.append_assoc]
        have hlen : ¬ (9223372036854775807 < S.length + D.length) := by omega
        have HL := hideE hL
        clear hL hSl hDl
        go_wp2_with fail
        go_ret2
        exact ⟨by rw [Hv.out, H0.out]; rfl, HL.out.low⟩
      | succ q =>
        have hk : ((k : Int) < (x.segs.length : Int)) := by omega
        have hk0 : (0 : Int) ≤ (k : Int) := by omega
        have hwk : IntKind.i64.wrap ((k : Int) + 1) = (k : Int) + 1 := wrE (by omega) (by omega)
        obtain ⟨y, hy⟩ : ∃ y, x.segs[k]? = some y := ⟨x.segs[k]'(by omega), List.getElem?_eq_getElem (by omega)⟩
        obtain ⟨gb, go, rfl⟩ := sls_some HS.out (by omega)
        obtain ⟨hc, _⟩ := slsCells (HS.out.below hL.low) (by omega)
        obtain ⟨b0, b1, b2, b3⟩ := SlS.at hc k y hy
        have hpl : D.length + y.data.length ≤ (datas x.segs).length := by rw [HDe.out]; exact pre_le _ k y hy
        obtain ⟨m1, m2, m3, m4, m5, m6⟩ := HM.out y (List.mem_of_getElem? hy)
        have hya := y.addr.isLt
        obtain ⟨N, hNi⟩ : ∃ N : Nat, y.size = (N : Int) := ⟨y.size.toNat, by omega⟩
        obtain ⟨Fl, hFi⟩ : ∃ Fl : Nat, y.flags = (Fl : Int) := ⟨y.flags.toNat, by omega⟩
        obtain ⟨P, hP⟩ : ∃ P : Nat, P = 52 + 32 * x.segs.length + D.length := ⟨_, rfl⟩
        have hPi : (52 : Int) + 32 * (x.segs.length : Int) + (D.length : Int) = (P : Int) := by omega
        have HP := hideE hP
        have hPb : P ≤ 10000 := by omega
        have hNb : N ≤ 16777216 := by omega
        have hFb : Fl ≤ 7 := by omega
        have hwa : IntKind.i64.wrap (y.addr.toNat : Int) = (y.addr.toNat : Int) := wrE (by omega) (by omega)
        have hw1 : IntKind.i64.wrap ((32 : Int) * (x.segs.length : Int)) = 32 * (x.segs.length : Int) := wrE (by omega) (by omega)
        have hw2 : IntKind.i64.wrap ((52 : Int) + 32 * (x.segs.length : Int)) = 52 + 32 * (x.segs.length : Int) := wrE (by omega) (by omega)
        have hw3 : IntKind.i64.wrap ((52 : Int) + 32 * (x.segs.length : Int) + (D.length : Int)) = 52 + 32 * (x.segs.length : Int) + (D.length : Int) := wrE (by omega) (by omega)
        have Hy := hideE hy
        have HR := hideE (InLook.new hL y)
        have e2 := (three HR.out.at'.box).1.2.2
        have HNi := hideE hNi
        have HFi := hideE hFi
        have HPi := hideE hPi
        have nl := numB_len
        obtain ⟨R1, hR1⟩ : ∃ R, R = (numB 4 1) ++ numB 4 P := ⟨_, rfl⟩
        have cR1 : (⟨((numB 4 1)).toArray⟩ : ByteArray) ++ ⟨(numB 4 P).toArray⟩ = ⟨R1.toArray⟩ := by rw [hR1]; exact cat_lists _ _
        have LR1 : R1.length = 8 := by rw [hR1, List.length_append, numB_len, numB_len]
        have lR1 : ¬ (9223372036854775807 < R1.length + 4) := by omega
        obtain ⟨R2, hR2⟩ : ∃ R, R = R1 ++ numB 4 (y.addr.toNat) := ⟨_, rfl⟩
        have cR2 : (⟨(R1).toArray⟩ : ByteArray) ++ ⟨(numB 4 (y.addr.toNat)).toArray⟩ = ⟨R2.toArray⟩ := by rw [hR2]; exact cat_lists _ _
        have LR2 : R2.length = 12 := by rw [hR2, List.length_append, numB_len, LR1]
        have lR2 : ¬ (9223372036854775807 < R2.length + 4) := by omega
        obtain ⟨R3, hR3⟩ : ∃ R, R = R2 ++ numB 4 (y.addr.toNat) := ⟨_, rfl⟩
        have cR3 : (⟨(R2).toArray⟩ : ByteArray) ++ ⟨(numB 4 (y.addr.toNat)).toArray⟩ = ⟨R3.toArray⟩ := by rw [hR3]; exact cat_lists _ _
        have LR3 : R3.length = 16 := by rw [hR3, List.length_append, numB_len, LR2]
        have lR3 : ¬ (9223372036854775807 < R3.length + 4) := by omega
        obtain ⟨R4, hR4⟩ : ∃ R, R = R3 ++ numB 4 (y.data.length) := ⟨_, rfl⟩
        have cR4 : (⟨(R3).toArray⟩ : ByteArray) ++ ⟨(numB 4 (y.data.length)).toArray⟩ = ⟨R4.toArray⟩ := by rw [hR4]; exact cat_lists _ _
        have LR4 : R4.length = 20 := by rw [hR4, List.length_append, numB_len, LR3]
        have lR4 : ¬ (9223372036854775807 < R4.length + 4) := by omega
        obtain ⟨R5, hR5⟩ : ∃ R, R = R4 ++ numB 4 N := ⟨_, rfl⟩
        have cR5 : (⟨(R4).toArray⟩ : ByteArray) ++ ⟨(numB 4 N).toArray⟩ = ⟨R5.toArray⟩ := by rw [hR5]; exact cat_lists _ _
        have LR5 : R5.length = 24 := by rw [hR5, List.length_append, numB_len, LR4]
        have lR5 : ¬ (9223372036854775807 < R5.length + 4) := by omega
        obtain ⟨R6, hR6⟩ : ∃ R, R = R5 ++ numB 4 Fl := ⟨_, rfl⟩
        have cR6 : (⟨(R5).toArray⟩ : ByteArray) ++ ⟨(numB 4 Fl).toArray⟩ = ⟨R6.toArray⟩ := by rw [hR6]; exact cat_lists _ _
        have LR6 : R6.length = 28 := by rw [hR6, List.length_append, numB_len, LR5]
        have lR6 : ¬ (9223372036854775807 < R6.length + 4) := by omega
        obtain ⟨R7, hR7⟩ : ∃ R, R = R6 ++ numB 4 4 := ⟨_, rfl⟩
        have cR7 : (⟨(R6).toArray⟩ : ByteArray) ++ ⟨(numB 4 4).toArray⟩ = ⟨R7.toArray⟩ := by rw [hR7]; exact cat_lists _ _
        have LR7 : R7.length = 32 := by rw [hR7, List.length_append, numB_len, LR6]
        have HRow : Hid (R7 = row y P) := by
          show R7 = row y P
          rw [← row_bytes y P N Fl hNi hFi, hR7, hR6, hR5, hR4, hR3, hR2, hR1]
        obtain ⟨Q, hQ⟩ : ∃ Q, Q = S ++ R7 := ⟨_, rfl⟩
        have cQ : (⟨S.toArray⟩ : ByteArray) ++ ⟨R7.toArray⟩ = ⟨Q.toArray⟩ := by rw [hQ]; exact cat_lists _ _
        have lQ : ¬ (9223372036854775807 < S.length + R7.length) := by omega
        obtain ⟨D', hD'⟩ : ∃ D', D' = D ++ y.data := ⟨_, rfl⟩
        have cD : (⟨D.toArray⟩ : ByteArray) ++ ⟨y.data.toArray⟩ = ⟨D'.toArray⟩ := by rw [hD']; exact cat_lists _ _
        have lD : ¬ (9223372036854775807 < D.length + y.data.length) := by omega
        have HQ := hideE hQ
        have HD' := hideE hD'
        clear hQ hD' hR1 hR2 hR3 hR4 hR5 hR6 hR7 LR1 LR2 LR3 LR4 LR5 LR6 LR7
        clear hy hc hL hNi hFi hPi hP hSl
        go_wp2_with fail
        clear a0 a1 a2 b0 b1 b2 b3 e2
        refine wp_region_noPanic ?_
        refine wp_region_held_drew (S := InLook w (x.entry.toNat : Int) (x.flags.toNat : Int) (.slice (some ⟨gb, go, none⟩) x.segs.length c) wr.heap.size y) (by kernel_rfl) HR.out.drew (fun h0 => ?_)
        refine wpAnyH_takeAt (i := 0) (v := ?_) rfl (by kernel_rfl) (by kernel_rfl) (by kernel_rfl) (fun _ _ _ h => h) (Or.inl ⟨by rfl, ?_⟩) h0 ?_
        rotate_left 1
        · intro w' hS; clear hS
          go_simp <;> with_reducible rfl
        try simp only [Act.put, List.setIfInBounds_toArray, List.set_cons_zero, List.set_cons_succ]
        refine wpAnyH_takeAt (i := 2) (v := ?_) rfl (by kernel_rfl) (by kernel_rfl) (by kernel_rfl) (fun _ _ _ h => h) (Or.inl ⟨by rfl, ?_⟩) h0 ?_
        rotate_left 1
        · intro w' hS; clear hS
          go_simp <;> with_reducible rfl
        try simp only [Act.put, List.setIfInBounds_toArray, List.set_cons_zero, List.set_cons_succ]
        refine wpAnyH_takeAt (i := 5) (v := ?_) rfl (by kernel_rfl) (by kernel_rfl) (by kernel_rfl) (fun _ _ _ h => h) (Or.inl ⟨by rfl, ?_⟩) h0 ?_
        rotate_left 1
        · intro w' hS; obtain ⟨⟨y0, y1, y2, y3⟩, _⟩ := four hS.seg; clear hS
          go_simp <;> with_reducible rfl
        try simp only [Act.put, List.setIfInBounds_toArray, List.set_cons_zero, List.set_cons_succ]
        refine wpAnyH_takeAt (i := 6) (v := ?_) rfl (by kernel_rfl) (by kernel_rfl) (by kernel_rfl) (fun _ _ _ h => h) (Or.inl ⟨by rfl, ?_⟩) h0 ?_
        rotate_left 1
        · intro w' hS; obtain ⟨⟨y0, y1, y2, y3⟩, _⟩ := four hS.seg; clear hS
          go_simp <;> with_reducible rfl
        try simp only [Act.put, List.setIfInBounds_toArray, List.set_cons_zero, List.set_cons_succ]
        refine wpAnyH_takeAt (i := 7) (v := .int .i64 (y.addr.toNat : Int)) rfl (by kernel_rfl) (by kernel_rfl) (by kernel_rfl) (fun _ _ _ h => h) (Or.inl ⟨by rfl, ?_⟩) h0 ?_
        · intro w' hS; clear hS
          go_simp
        try simp only [Act.put, List.setIfInBounds_toArray, List.set_cons_zero, List.set_cons_succ]
        refine wpAnyH_takeAt (i := 10) (v := ?_) rfl (by kernel_rfl) (by kernel_rfl) (by kernel_rfl) (fun _ _ _ h => h) (Or.inl ⟨by rfl, ?_⟩) h0 ?_
        rotate_left 1
        · intro w' hS; obtain ⟨⟨y0, y1, y2, y3⟩, _⟩ := four hS.seg; clear hS
          go_simp <;> with_reducible rfl
        try simp only [Act.put, List.setIfInBounds_toArray, List.set_cons_zero, List.set_cons_succ]
        refine wpAnyH_takeAt (i := 11) (v := ?_) rfl (by kernel_rfl) (by kernel_rfl) (by kernel_rfl) (fun _ _ _ h => h) (Or.inl ⟨by rfl, ?_⟩) h0 ?_
        rotate_left 1
        · intro w' hS; obtain ⟨⟨y0, y1, y2, y3⟩, _⟩ := four hS.seg; clear hS
          go_simp <;> with_reducible rfl
        try simp only [Act.put, List.setIfInBounds_toArray, List.set_cons_zero, List.set_cons_succ]
        refine wpAnyH_takeAt (i := 12) (v := .int .i64 (y.addr.toNat : Int)) rfl (by kernel_rfl) (by kernel_rfl) (by kernel_rfl) (fun _ _ _ h => h) (Or.inl ⟨by rfl, ?_⟩) h0 ?_
        · intro w' hS; clear hS
          go_simp
        try simp only [Act.put, List.setIfInBounds_toArray, List.set_cons_zero, List.set_cons_succ]
        refine wpAnyH_takeAt (i := 15) (v := ?_) rfl (by kernel_rfl) (by kernel_rfl) (by kernel_rfl) (fun _ _ _ h => h) (Or.inl ⟨by rfl, ?_⟩) h0 ?_
        rotate_left 1
        · intro w' hS; obtain ⟨⟨y0, y1, y2, y3⟩, _⟩ := four hS.seg; clear hS
          go_simp <;> with_reducible rfl
        try simp only [Act.put, List.setIfInBounds_toArray, List.set_cons_zero, List.set_cons_succ]
        refine wpAnyH_takeAt (i := 16) (v := ?_) rfl (by kernel_rfl) (by kernel_rfl) (by kernel_rfl) (fun _ _ _ h => h) (Or.inl ⟨by rfl, ?_⟩) h0 ?_
        rotate_left 1
        · intro w' hS; obtain ⟨⟨y0, y1, y2, y3⟩, _⟩ := four hS.seg; clear hS
          go_simp <;> with_reducible rfl
        try simp only [Act.put, List.setIfInBounds_toArray, List.set_cons_zero, List.set_cons_succ]
        refine wpAnyH_takeAt (i := 17) (v := ?_) rfl (by kernel_rfl) (by kernel_rfl) (by kernel_rfl) (fun _ _ _ h => h) (Or.inl ⟨by rfl, ?_⟩) h0 ?_
        rotate_left 1
        · intro w' hS; obtain ⟨⟨y0, y1, y2, y3⟩, _⟩ := four hS.seg; clear hS
          go_simp <;> with_reducible rfl
        try simp only [Act.put, List.setIfInBounds_toArray, List.set_cons_zero, List.set_cons_succ]
        refine wpAnyH_takeAt (i := 20) (v := ?_) rfl (by kernel_rfl) (by kernel_rfl) (by kernel_rfl) (fun _ _ _ h => h) (Or.inl ⟨by rfl, ?_⟩) h0 ?_
        rotate_left 1
        · intro w' hS; obtain ⟨⟨y0, y1, y2, y3⟩, _⟩ := four hS.seg; clear hS
          go_simp <;> with_reducible rfl
        try simp only [Act.put, List.setIfInBounds_toArray, List.set_cons_zero, List.set_cons_succ]
        refine wpAnyH_takeAt (i := 21) (v := ?_) rfl (by kernel_rfl) (by kernel_rfl) (by kernel_rfl) (fun _ _ _ h => h) (Or.inl ⟨by rfl, ?_⟩) h0 ?_
        rotate_left 1
        · intro w' hS; obtain ⟨⟨y0, y1, y2, y3⟩, _⟩ := four hS.seg; clear hS
          go_simp <;> with_reducible rfl
        try simp only [Act.put, List.setIfInBounds_toArray, List.set_cons_zero, List.set_cons_succ]
        refine wpAnyH_takeAt (i := 24) (v := ?_) rfl (by kernel_rfl) (by kernel_rfl) (by kernel_rfl) (fun _ _ _ h => h) (Or.inl ⟨by rfl, ?_⟩) h0 ?_
        rotate_left 1
        · intro w' hS; obtain ⟨⟨y0, y1, y2, y3⟩, _⟩ := four hS.seg; clear hS
          go_simp <;> with_reducible rfl
        try simp only [Act.put, List.setIfInBounds_toArray, List.set_cons_zero, List.set_cons_succ]
        refine wpAnyH_takeAt (i := 25) (v := ?_) rfl (by kernel_rfl) (by kernel_rfl) (by kernel_rfl) (fun _ _ _ h => h) (Or.inl ⟨by rfl, ?_⟩) h0 ?_
        rotate_left 1
        · intro w' hS; obtain ⟨⟨y0, y1, y2, y3⟩, _⟩ := four hS.seg; clear hS
          go_simp <;> with_reducible rfl
        try simp only [Act.put, List.setIfInBounds_toArray, List.set_cons_zero, List.set_cons_succ]
        refine wpAnyH_ready (rs := [1]) (by kernel_rfl) (by simp) (allReady_at rfl (fun K hK => ?_))
        go_simp
        refine (bytes_at _ 1 4 (by first | rfl | exact HPi.out | exact HNi.out | exact HFi.out | omega) (by omega) (by omega) _).mono ?_
        rintro e v0 ⟨rfl, hbv0⟩
        dsimp only
        have k0 : InLook w (x.entry.toNat : Int) (x.flags.toNat : Int) (.slice (some ⟨gb, go, none⟩) x.segs.length c) wr.heap.size y v0 := h0.below hbv0
        refine hK.out _ _ k0 (fun _ => ?_)
        clear hK K
        try simp only [Act.put, List.setIfInBounds_toArray, List.set_cons_zero, List.set_cons_succ]
        refine wpAnyH_ready (rs := [3]) (by kernel_rfl) (by simp) (allReady_at rfl (fun K hK => ?_))
        go_simp
        refine (bytes_at _ P 4 (by first | rfl | exact HPi.out | exact HNi.out | exact HFi.out | omega) (by omega) (by omega) _).mono ?_
        rintro e v1 ⟨rfl, hbv1⟩
        dsimp only
        have k1 : InLook w (x.entry.toNat : Int) (x.flags.toNat : Int) (.slice (some ⟨gb, go, none⟩) x.segs.length c) wr.heap.size y v1 := k0.below hbv1
        refine hK.out _ _ k1 (fun _ => ?_)
        clear hK K
        try simp only [Act.put, List.setIfInBounds_toArray, List.set_cons_zero, List.set_cons_succ]
        refine wpAnyH_takeAt (i := 4) (v := .string ⟨R1.toArray⟩) rfl (by kernel_rfl) (by kernel_rfl) (by kernel_rfl) (fun _ _ _ h => h) (Or.inl ⟨by rfl, ?_⟩) k1 ?_
        · intro w' hS; clear hS
          go_simp
        try simp only [Act.put, List.setIfInBounds_toArray, List.set_cons_zero, List.set_cons_succ]
        refine wpAnyH_ready (rs := [8]) (by kernel_rfl) (by simp) (allReady_at rfl (fun K hK => ?_))
        go_simp
        refine (bytes_at _ y.addr.toNat 4 (by first | rfl | exact HPi.out | exact HNi.out | exact HFi.out | omega) (by omega) (by omega) _).mono ?_
        rintro e v2 ⟨rfl, hbv2⟩
        dsimp only
        have k2 : InLook w (x.entry.toNat : Int) (x.flags.toNat : Int) (.slice (some ⟨gb, go, none⟩) x.segs.length c) wr.heap.size y v2 := k1.below hbv2
        refine hK.out _ _ k2 (fun _ => ?_)
        clear hK K
        try simp only [Act.put, List.setIfInBounds_toArray, List.set_cons_zero, List.set_cons_succ]
        refine wpAnyH_takeAt (i := 9) (v := .string ⟨R2.toArray⟩) rfl (by kernel_rfl) (by kernel_rfl) (by kernel_rfl) (fun _ _ _ h => h) (Or.inl ⟨by rfl, ?_⟩) k2 ?_
        · intro w' hS; clear hS
          go_simp
        try simp only [Act.put, List.setIfInBounds_toArray, List.set_cons_zero, List.set_cons_succ]
        refine wpAnyH_ready (rs := [13]) (by kernel_rfl) (by simp) (allReady_at rfl (fun K hK => ?_))
        go_simp
        refine (bytes_at _ y.addr.toNat 4 (by first | rfl | exact HPi.out | exact HNi.out | exact HFi.out | omega) (by omega) (by omega) _).mono ?_
        rintro e v3 ⟨rfl, hbv3⟩
        dsimp only
        have k3 : InLook w (x.entry.toNat : Int) (x.flags.toNat : Int) (.slice (some ⟨gb, go, none⟩) x.segs.length c) wr.heap.size y v3 := k2.below hbv3
        refine hK.out _ _ k3 (fun _ => ?_)
        clear hK K
        try simp only [Act.put, List.setIfInBounds_toArray, List.set_cons_zero, List.set_cons_succ]
        refine wpAnyH_takeAt (i := 14) (v := .string ⟨R3.toArray⟩) rfl (by kernel_rfl) (by kernel_rfl) (by kernel_rfl) (fun _ _ _ h => h) (Or.inl ⟨by rfl, ?_⟩) k3 ?_
        · intro w' hS; clear hS
          go_simp
        try simp only [Act.put, List.setIfInBounds_toArray, List.set_cons_zero, List.set_cons_succ]
        refine wpAnyH_ready (rs := [18]) (by kernel_rfl) (by simp) (allReady_at rfl (fun K hK => ?_))
        go_simp
        refine (bytes_at _ y.data.length 4 (by first | rfl | exact HPi.out | exact HNi.out | exact HFi.out | omega) (by omega) (by omega) _).mono ?_
        rintro e v4 ⟨rfl, hbv4⟩
        dsimp only
        have k4 : InLook w (x.entry.toNat : Int) (x.flags.toNat : Int) (.slice (some ⟨gb, go, none⟩) x.segs.length c) wr.heap.size y v4 := k3.below hbv4
        refine hK.out _ _ k4 (fun _ => ?_)
        clear hK K
        try simp only [Act.put, List.setIfInBounds_toArray, List.set_cons_zero, List.set_cons_succ]
        refine wpAnyH_takeAt (i := 19) (v := .string ⟨R4.toArray⟩) rfl (by kernel_rfl) (by kernel_rfl) (by kernel_rfl) (fun _ _ _ h => h) (Or.inl ⟨by rfl, ?_⟩) k4 ?_
        · intro w' hS; clear hS
          go_simp
        try simp only [Act.put, List.setIfInBounds_toArray, List.set_cons_zero, List.set_cons_succ]
        refine wpAnyH_ready (rs := [22]) (by kernel_rfl) (by simp) (allReady_at rfl (fun K hK => ?_))
        go_simp
        refine (bytes_at _ N 4 (by first | rfl | exact HPi.out | exact HNi.out | exact HFi.out | omega) (by omega) (by omega) _).mono ?_
        rintro e v5 ⟨rfl, hbv5⟩
        dsimp only
        have k5 : InLook w (x.entry.toNat : Int) (x.flags.toNat : Int) (.slice (some ⟨gb, go, none⟩) x.segs.length c) wr.heap.size y v5 := k4.below hbv5
        refine hK.out _ _ k5 (fun _ => ?_)
        clear hK K
        try simp only [Act.put, List.setIfInBounds_toArray, List.set_cons_zero, List.set_cons_succ]
        refine wpAnyH_takeAt (i := 23) (v := .string ⟨R5.toArray⟩) rfl (by kernel_rfl) (by kernel_rfl) (by kernel_rfl) (fun _ _ _ h => h) (Or.inl ⟨by rfl, ?_⟩) k5 ?_
        · intro w' hS; clear hS
          go_simp
        try simp only [Act.put, List.setIfInBounds_toArray, List.set_cons_zero, List.set_cons_succ]
        refine wpAnyH_ready (rs := [26]) (by kernel_rfl) (by simp) (allReady_at rfl (fun K hK => ?_))
        go_simp
        refine (bytes_at _ Fl 4 (by first | rfl | exact HPi.out | exact HNi.out | exact HFi.out | omega) (by omega) (by omega) _).mono ?_
        rintro e v6 ⟨rfl, hbv6⟩
        dsimp only
        have k6 : InLook w (x.entry.toNat : Int) (x.flags.toNat : Int) (.slice (some ⟨gb, go, none⟩) x.segs.length c) wr.heap.size y v6 := k5.below hbv6
        refine hK.out _ _ k6 (fun _ => ?_)
        clear hK K
        try simp only [Act.put, List.setIfInBounds_toArray, List.set_cons_zero, List.set_cons_succ]
        refine wpAnyH_takeAt (i := 27) (v := .string ⟨R6.toArray⟩) rfl (by kernel_rfl) (by kernel_rfl) (by kernel_rfl) (fun _ _ _ h => h) (Or.inl ⟨by rfl, ?_⟩) k6 ?_
        · intro w' hS; clear hS
          go_simp
        try simp only [Act.put, List.setIfInBounds_toArray, List.set_cons_zero, List.set_cons_succ]
        refine wpAnyH_ready (rs := [28]) (by kernel_rfl) (by simp) (allReady_at rfl (fun K hK => ?_))
        go_simp
        refine (bytes_at _ 4 4 (by first | rfl | exact HPi.out | exact HNi.out | exact HFi.out | omega) (by omega) (by omega) _).mono ?_
        rintro e v7 ⟨rfl, hbv7⟩
        dsimp only
        have k7 : InLook w (x.entry.toNat : Int) (x.flags.toNat : Int) (.slice (some ⟨gb, go, none⟩) x.segs.length c) wr.heap.size y v7 := k6.below hbv7
        refine hK.out _ _ k7 (fun _ => ?_)
        clear hK K
        try simp only [Act.put, List.setIfInBounds_toArray, List.set_cons_zero, List.set_cons_succ]
        refine wpAnyH_takeAt (i := 29) (v := .string ⟨R7.toArray⟩) rfl (by kernel_rfl) (by kernel_rfl) (by kernel_rfl) (fun _ _ _ h => h) (Or.inl ⟨by rfl, ?_⟩) k7 ?_
        · intro w' hS; clear hS
          go_simp
        try simp only [Act.put, List.setIfInBounds_toArray, List.set_cons_zero, List.set_cons_succ]
        refine wpAnyH_takeAt (i := 30) (v := .string ⟨Q.toArray⟩) rfl (by kernel_rfl) (by kernel_rfl) (by kernel_rfl) (fun _ _ _ h => h) (Or.inl ⟨by rfl, ?_⟩) k7 ?_
        · intro w' hS; clear hS
          go_simp
        try simp only [Act.put, List.setIfInBounds_toArray, List.set_cons_zero, List.set_cons_succ]
        refine wpAnyH_takeAt (i := 31) (v := ?_) rfl (by kernel_rfl) (by kernel_rfl) (by kernel_rfl) (fun _ _ _ h => h) (Or.inl ⟨by rfl, ?_⟩) k7 ?_
        rotate_left 1
        · intro w' hS; clear hS
          go_simp <;> with_reducible rfl
        try simp only [Act.put, List.setIfInBounds_toArray, List.set_cons_zero, List.set_cons_succ]
        refine wpAnyH_done (by kernel_rfl) ?_ _
        refine NoPanic.normal ?_
        obtain ⟨⟨y0, y1, y2, y3⟩, _⟩ := four k7.seg
        have HF := hideE k7.at'
        go_wp2_with fail
        go_roundg q
        case measure => omega
        case rel => exact ⟨k + 1, Q, D', by omega, by simp, rfl, rfl, by rw [take_snoc Hy.out, rows_app, HQ.out, HSe.out, HRow.out, HP.out, HDe.out, List.append_assoc], by rw [take_snoc Hy.out, datas_app, HD'.out, HDe.out]; simp [datas], HF.out⟩
  · have hv : wrV x = [] := by unfold wrV; rw [if_neg h0]
    have hq : (chk x.segs != 0) = true := bne_iff_ne.2 h0
    have Hv := hideE hv
    generalize hk : chk x.segs = k at *
    clear h0 hv
    go_wp2_with fail
    go_ret2
    exact ⟨by rw [Hv.out, hk]; rfl, HL.out.low⟩
end Go.Proofs.Ytegfpbffgnpebaa
