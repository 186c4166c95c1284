/-
  What the program's variables hold; contracts of package asm's Name, By, shape, number and register.
  Contracts of package asm's place, text, printed and Print: an instruction's text.
-/
import Derived.Lib.AtoiErrMem
import Derived.Lib.AppendIntMem
import Derived.Lib.ItoaLen
import Derived.Lib.SmallJoins
import Derived.Deep.RegionHeld3
import Derived.Test.YtdjladaefoedfaaDoorZA1
import Derived.Test.YtdjladaefoedfaaDoorZd
import Derived.Test.YtdjladaefoedfaaDoorZf
namespace Go.Proofs.YtdjladaefoedfaaDoor
open Go.RowKit Ip As

def Nv : Array Value := (nms.map fun l => Value.string ⟨l.toArray⟩).toArray
/-- What the variables on the road hold. -/
structure Gl (w : World) : Prop where
  row : ∃ t fr, w.heap[0]? = some (.cells Nv t fr)
  tab : Lib.TabIs Tryd.prog w "internal/strconv.uint64pow10" .u64 Lib.pow10Tab
  es : ∃ ev, w.cell? ⟨2, 0, none⟩ = some ev ∧ (ev = .nilIface ∨ ∃ te pe, ev = .iface te pe)
  er : ∃ ev, w.cell? ⟨3, 0, none⟩ = some ev ∧ (ev = .nilIface ∨ ∃ te pe, ev = .iface te pe)
  big : 7 ≤ w.heap.size
theorem Gl.below {w w' : World} {B : Nat} (h : Gl w) (hB : 7 ≤ B) (hb : Below B w w') : Gl w' := by
  obtain ⟨t, fr, hr⟩ := h.row
  obtain ⟨e1, c1, k1⟩ := h.es
  obtain ⟨e2, c2, k2⟩ := h.er
  have cell : ∀ b o, b < B → w'.cell? ⟨b, o, none⟩ = w.cell? ⟨b, o, none⟩ := fun b o hb' => by
    simp only [World.cell?, hb.block b hb']
  refine ⟨⟨t, fr, by rw [hb.block _ (by omega)]; exact hr⟩, ?_, ⟨e1, by rw [cell _ _ (by omega)]; exact c1, k1⟩, ⟨e2, by rw [cell _ _ (by omega)]; exact c2, k2⟩, Nat.le_trans h.big hb.size⟩
  have ht := h.tab
  have hg : Tryd.prog.globalNamed "internal/strconv.uint64pow10" = some 4 := by kernel_rfl
  unfold Lib.TabIs World.var? at ht ⊢
  rw [hg] at ht ⊢
  simp only [Option.bind_some] at ht ⊢
  rw [hb.block _ (by omega)]; exact ht
theorem Gl.grow {w w' : World} (h : Gl w) (hb : Below w.heap.size w w') : Gl w' := h.below h.big hb
theorem Gl.name {w : World} (h : Gl w) (k : Nat) (hk : k < 47) : w.cell? ⟨0, k, none⟩ = some (.string ⟨(nm k).toArray⟩) := by
  obtain ⟨t, fr, hr⟩ := h.row
  simp only [World.cell?, hr]
  revert k
  refine cases47 ?_ ?_ ?_ ?_ ?_ ?_ ?_ ?_ ?_ ?_ ?_ ?_ ?_ ?_ ?_ ?_ ?_ ?_ ?_ ?_ ?_ ?_ ?_ ?_ ?_ ?_ ?_ ?_ ?_ ?_ ?_ ?_ ?_ ?_ ?_ ?_ ?_ ?_ ?_ ?_ ?_ ?_ ?_ ?_ ?_ ?_ ?_
  all_goals kernel_rfl
theorem index_nm (k : Nat) (h : k < 47) (w : World) : (Instr.index 45 (.agg Nv) (.int .i64 (k : Int))).run Tryd.prog w = .ok (.string ⟨(nm k).toArray⟩) w := by
  revert k
  refine cases47 ?_ ?_ ?_ ?_ ?_ ?_ ?_ ?_ ?_ ?_ ?_ ?_ ?_ ?_ ?_ ?_ ?_ ?_ ?_ ?_ ?_ ?_ ?_ ?_ ?_ ?_ ?_ ?_ ?_ ?_ ?_ ?_ ?_ ?_ ?_ ?_ ?_ ?_ ?_ ?_ ?_ ?_ ?_ ?_ ?_ ?_ ?_
  all_goals kernel_rfl
theorem ret_str {a b : List UInt8} (h : a = b) : Ending.returned (.string ⟨a.toArray⟩) = .returned (.string ⟨b.toArray⟩) := by rw [h]

theorem name_any (op : Int) (w : World) (hG : Gl w) : Calls Tryd.prog 12 #[.int .i64 op] w fun e w' => e = .returned (.string ⟨(name op).toArray⟩) ∧ w' = w := by
  by_cases h0 : op < 0
  · go_enter Tryd.func12, Tryd.ntmps12
    go_wp2
    go_ret
    exact ⟨ret_str (a := []) (by unfold name; rw [if_neg (by omega)]), rfl⟩
  · by_cases h1 : 47 ≤ op
    · go_enter Tryd.func12, Tryd.ntmps12
      go_wp2
      go_ret
      exact ⟨ret_str (a := []) (by unfold name; rw [if_pos (by omega), nm_big _ (by omega)]), rfl⟩
    · obtain ⟨k, rfl⟩ := Int.eq_ofNat_of_zero_le (by omega : 0 ≤ op)
      have hc := hG.name k (by omega)
      go_enter Tryd.func12, Tryd.ntmps12
      go_wp2
      go_ret
      exact ⟨ret_str (by unfold name; rw [if_pos (by omega), Int.toNat_natCast]), rfl⟩
theorem byF_skip (l : List UInt8) : ∀ (r : List (List UInt8)) (j : Nat) (k : Int), (∀ i, i < j → r[i]? ≠ some l) → byF l r k = byF l (r.drop j) (k + j)
  | r, 0, k, _ => by simp
  | [], j + 1, k, _ => by simp [byF]
  | a :: r, j + 1, k, h => by
    have ha : a ≠ l := fun e => h 0 (by omega) (by simp [e])
    have ih := byF_skip l r j (k + 1) (fun i hi => by have := h (i + 1) (by omega); simpa using this)
    simp only [byF, ha, if_false, List.drop_succ_cons]; rw [ih]; congr 1; omega
theorem nms_at (k : Nat) (h : k < 47) : nms[k]? = some (nm k) := by
  unfold nm; rw [List.getD_eq_getElem?_getD, List.getElem?_eq_getElem (by have : nms.length = 47 := by decide +kernel
                                                                          omega)]; rfl
theorem byV_hit (l : List UInt8) (k : Nat) (h : k < 47) (hk : nm k = l) : byV l = k := by rw [← hk, byV_nm k h]
theorem byV_miss (l : List UInt8) (hno : ∀ i, i < 47 → nm i ≠ l) : byV l = -1 := by
  by_cases h : 0 ≤ byV l
  · have := byV_at l h
    exact absurd this.2 (hno _ (by omega))
  · have := byV_ge l; omega

set_option maxRecDepth 100000 in
set_option maxHeartbeats 4000000 in
theorem by_any (s : ByteArray) (w : World) (hG : Gl w) : Calls Tryd.prog 14 #[.string s] w fun e w' => e = .returned (.int .i64 (byV s.data.toList)) ∧ w' = w := by
  obtain ⟨t, fr, hr⟩ := hG.row
  go_enter Tryd.func14, Tryd.ntmps14
  go_wp2_with (refine wpList_load_row rfl 45 _ rfl 0 rfl t Nv fr _ hr Tryd.underlying45 rfl (by kernel_rfl) ?_)
  go_loopw [6] (fun i wr => ∃ k : Nat, k ≤ 47 ∧ i = .int .i64 (k : Int) ∧ (∀ i, i < k → nm i ≠ s.data.toList) ∧ wr = w) (fun i _ => (47 - intOf i).toNat)
  case atStart => exact ⟨0, by omega, rfl, fun i h => absurd h (by omega), rfl⟩
  case round =>
    obtain ⟨k, hk, rfl, hno, rfl⟩ := hrel
    have HN : Hid (∀ i, i < k → nm i ≠ s.data.toList) := hno
    clear hno
    by_cases hlt : k < 47
    · have hidx := index_nm k hlt
      go_wp2
      · have he : (nm k == s.data.toList) = true := by first | assumption | (rw [← Lib.toList_data]; assumption) | simp_all
        go_ret
        exact ⟨ret_int (byV_hit _ k hlt (beq_iff_eq.1 he)).symm, rfl⟩
      · have he : (nm k == s.data.toList) = false := by first | assumption | (rw [← Lib.toList_data]; assumption) | simp_all
        go_roundw
        case measure => show (47 - ((k : Int) + 1)).toNat < (47 - (k : Int)).toNat; omega
        exact ⟨k + 1, by omega, rfl, fun i hi => by
          by_cases h : i = k
          · rw [h]; exact beq_eq_false_iff_ne.1 he
          · exact HN.out i (by omega), trivial⟩
    · obtain rfl : k = 47 := by omega
      go_wp2
      go_ret
      exact ⟨ret_int (byV_miss _ HN.out).symm, rfl⟩

theorem shape_any (op : Int) (w : World) : Calls Tryd.prog 41 #[.int .i64 op] w fun e w' => e = .returned (.int .u8 (sh op : Int)) ∧ Below w.heap.size w w' := by
  by_cases hm : op = 3 ∨ op = 10 ∨ op = 11 ∨ op = 12 ∨ op = 13 ∨ op = 14
  · have e : (77 : Int) = ((sh op : Nat) : Int) := by unfold sh; rw [if_pos hm]; rfl
    rw [← e]
    rcases hm with h | h | h | h | h | h <;> subst h
    all_goals
      go_enter Tryd.func41, Tryd.ntmps41
      go_wp2
      go_ret
      exact ⟨rfl, Below.refl _ _⟩
  · have e : sh op = frm op := by unfold sh; rw [if_neg hm]
    rw [e]
    have h1 : op ≠ 3 := by omega
    have h2 : op ≠ 10 := by omega
    have h3 : op ≠ 11 := by omega
    have h4 : op ≠ 12 := by omega
    have h5 : op ≠ 13 := by omega
    have h6 : op ≠ 14 := by omega
    go_enter Tryd.func41, Tryd.ntmps41
    go_wp2_with (go_at_call 36; refine (form_any op _).mono ?_; rintro e w1 ⟨rfl, hb⟩)
    go_ret
    exact ⟨rfl, hb⟩
theorem number_at (n : Int) (h0 : -9223372036854775808 ≤ n) (h1 : n ≤ 9223372036854775807) (w : World) (hG : Gl w) : Calls Tryd.prog 44 #[.int .i64 n] w fun e w' => e = .returned (.string ⟨(Lib.itoa n).toArray⟩) ∧ Below w.heap.size w w' := by
  go_enter Tryd.func44, Tryd.ntmps44
  go_wp2_with (go_at_call 56; refine (Tryd.strconv_Itoa n h0 h1 _ hG.tab).mono ?_; rintro e w1 ⟨rfl, k, os, rfl⟩)
  go_ret
  exact ⟨rfl, Lib.below_grow _ _ (Nat.le_refl _) _ _⟩
theorem cat_to (a b c : List UInt8) (hc : c = a ++ b) (h : a.length + b.length ≤ 9223372036854775807) (w : World) : (Op.stringOp .add ⟨a.toArray⟩ ⟨b.toArray⟩).run Tryd.prog w = .ok (.string ⟨c.toArray⟩) w := by
  have : (⟨a.toArray⟩ ++ ⟨b.toArray⟩ : ByteArray) = ⟨c.toArray⟩ := by
    rw [hc]; apply ByteArray.ext; simp
  rw [run_string_add_sum w _ _ (by simpa [ByteArray.size] using h), this]
theorem register_at (n : Int) (h0 : -9223372036854775808 ≤ n) (h1 : n ≤ 9223372036854775807) (w : World) (hG : Gl w) : Calls Tryd.prog 43 #[.int .i64 n] w fun e w' => e = .returned (.string ⟨(rg n).toArray⟩) ∧ Below w.heap.size w w' := by
  have hl := Lib.itoa_length_le n h0 h1
  have hc := cat_to [120] (Lib.itoa n) (rg n) rfl (by simp only [List.length_cons, List.length_nil]; omega)
  clear hl
  go_enter Tryd.func43, Tryd.ntmps43
  go_wp2_with (go_at_call 44; refine (number_at n h0 h1 _ hG).mono ?_; rintro e w1 ⟨rfl, hb⟩)
  go_ret
  exact ⟨rfl, hb⟩
end Go.Proofs.YtdjladaefoedfaaDoor
namespace Go.Proofs.YtdjladaefoedfaaDoor
open Go.RowKit Ip As

abbrev As.Ins.val (x : Ins) : Value := .agg #[.int .i64 x.op, .int .i64 x.rd, .int .i64 x.rs1, .int .i64 x.rs2, .int .i64 x.imm]
def HeldG (w : World) (x : Ins) (w' : World) : Prop := (w'.cell? ⟨w.heap.size, 0, none⟩ = some (.int .i64 x.op) ∧ w'.cell? ⟨w.heap.size, 1, none⟩ = some (.int .i64 x.rd) ∧ w'.cell? ⟨w.heap.size, 2, none⟩ = some (.int .i64 x.rs1) ∧ w'.cell? ⟨w.heap.size, 3, none⟩ = some (.int .i64 x.rs2) ∧ w'.cell? ⟨w.heap.size, 4, none⟩ = some (.int .i64 x.imm) ∧ Below w.heap.size w w' ∧ w.heap.size < w'.heap.size)
theorem HeldG.X {w w' : World} {x : Ins} (h : HeldX w x.op x.rd x.rs1 x.rs2 x.imm w') : HeldG w x w' := h
theorem As.Fine.i64 {x : Ins} (h : Fine x) : (-9223372036854775808 ≤ x.rd ∧ x.rd ≤ 9223372036854775807) ∧ (-9223372036854775808 ≤ x.rs1 ∧ x.rs1 ≤ 9223372036854775807) ∧ (-9223372036854775808 ≤ x.rs2 ∧ x.rs2 ≤ 9223372036854775807) ∧ (-9223372036854775808 ≤ x.imm ∧ x.imm ≤ 9223372036854775807) := by
  obtain ⟨_, _, _, _, _, _, _, _, _, _⟩ := h
  omega
theorem HeldX.gl {w w' : World} {a b c d e : Int} (h : HeldX w a b c d e w') (g : Gl w) : Gl w' := g.grow h.2.2.2.2.2.1

set_option maxHeartbeats 4000000 in
theorem place_at (x : Ins) (hF : Fine x) (w : World) (hG : Gl w) : Calls Tryd.prog 45 #[x.val] w fun e w' => e = .returned (.string ⟨(plc x).toArray⟩) ∧ Below w.heap.size w w' := by
  obtain ⟨_, ⟨ha0, ha1⟩, _, hn0, hn1⟩ := hF.i64
  clear hF
  have l1 := Lib.itoa_length_le x.imm hn0 hn1
  have l2 := Lib.itoa_length_le x.rs1 ha0 ha1
  obtain ⟨A, hA⟩ : ∃ A, A = Lib.itoa x.imm ++ [40] := ⟨_, rfl⟩
  obtain ⟨B, hB⟩ : ∃ B, B = A ++ rg x.rs1 := ⟨_, rfl⟩
  have hc1 := cat_to (Lib.itoa x.imm) [40] A hA (by simp only [List.length_cons, List.length_nil]; omega)
  have hc2 := cat_to A (rg x.rs1) B hB (by rw [hA]; simp only [rg, List.length_append, List.length_cons, List.length_nil]; omega)
  have hc3 := cat_to B [41] (plc x) (by rw [hB, hA]; simp [plc]) (by rw [hB, hA]; simp only [rg, List.length_append, List.length_cons, List.length_nil]; omega)
  clear hA hB
  clear l1 l2
  have HG : Hid (Gl w) := hG
  clear hG
  cases x with
  | mk op rd rs1 rs2 imm =>
  simp only [] at *
  go_enter Tryd.func45, Tryd.ntmps45
  go_wp2_with fail
  have HX : Hid (HeldX w op rd rs1 rs2 imm _) := HeldX.start w op rd rs1 rs2 imm 23
  go_region_held3 (fun w' => w'.cell? ⟨w.heap.size, 0, none⟩ = some (.int .i64 op) ∧ w'.cell? ⟨w.heap.size, 1, none⟩ = some (.int .i64 rd) ∧ w'.cell? ⟨w.heap.size, 2, none⟩ = some (.int .i64 rs1) ∧ w'.cell? ⟨w.heap.size, 3, none⟩ = some (.int .i64 rs2) ∧ w'.cell? ⟨w.heap.size, 4, none⟩ = some (.int .i64 imm) ∧ Below w.heap.size w w' ∧ w.heap.size < w'.heap.size)
    ((show HeldX w op rd rs1 rs2 imm _; with_reducible (repeat (first | assumption | exact HX.out | refine HeldX.drew ?_ | refine HeldX.alloc ?_ _))))
    (first
      | (go_at_call 44; refine (number_at imm hn0 hn1 _ ((show HeldX w op rd rs1 rs2 imm _ by assumption).gl HG.out)).mono ?_; rintro e w3 ⟨rfl, hk⟩; have hS : HeldX w op rd rs1 rs2 imm w3 := HeldX.below (by assumption) hk)
      | (go_at_call 43; refine (register_at rs1 ha0 ha1 _ ((show HeldX w op rd rs1 rs2 imm _ by assumption).gl HG.out)).mono ?_; rintro e w3 ⟨rfl, hk⟩; have hS2 : HeldX w op rd rs1 rs2 imm w3 := HeldX.below (by assumption) hk))
  have hB := hS2.2.2.2.2.2.1
  go_wp2
  go_ret
  exact ⟨rfl, hB⟩

theorem text_none (n : List UInt8) (w : World) : Calls Tryd.prog 42 #[.string ⟨n.toArray⟩, .slice none 0 0] w fun e w' => e = .returned (.string ⟨n.toArray⟩) ∧ w' = w := by
  go_enter Tryd.func42, Tryd.ntmps42
  go_wp2
  go_ret
  exact ⟨rfl, rfl⟩
theorem text_at (n : List UInt8) (xs : List ByteArray) (r : List UInt8) (bk : Nat) (w : World) (hr : r = n ++ ([32] ++ Lib.join (xs.map (·.data.toList)) [44, 32])) (hcells : ∀ (j : Nat) x, xs[j]? = some x → w.cell? ⟨bk, 0 + j, none⟩ = some (.string x)) (hbk : bk < w.heap.size)
    (h1 : 1 ≤ xs.length) (h2 : xs.length ≤ 100) (hlen : (Lib.join (xs.map (·.data.toList)) [44, 32]).length ≤ 1000) (hn : n.length ≤ 1000) :
    Calls Tryd.prog 42 #[.string ⟨n.toArray⟩, .slice (some ⟨bk, 0, none⟩) xs.length xs.length] w fun e w' => e = .returned (.string ⟨r.toArray⟩) ∧ Below w.heap.size w w' := by
  have hj := Tryd.strings_Join bk 0 xs.length xs ⟨#[44, 32]⟩ w hcells hbk (by omega) (Nat.le_refl _) (by show (Lib.join (xs.map (·.data.toList)) [44, 32]).length ≤ _; omega)
  obtain ⟨J, hJ⟩ : ∃ J, J = Lib.join (xs.map (·.data.toList)) [44, 32] := ⟨_, rfl⟩
  obtain ⟨N, hN⟩ : ∃ N, N = n ++ [32] := ⟨_, rfl⟩
  have hc1 := cat_to n [32] N hN (by simp only [List.length_cons, List.length_nil]; omega)
  have hc2 := cat_to N J r (by rw [hr, hN, hJ]; simp) (by rw [hN, hJ]; simp only [List.length_append, List.length_cons, List.length_nil]; omega)
  have HJ : Hid (Calls Tryd.prog 55 #[.slice (some ⟨bk, 0, none⟩) xs.length xs.length, .string ⟨#[44, 32]⟩] w fun e w' => e = .returned (.string ⟨J.toArray⟩) ∧ Below w.heap.size w w') := by rw [hJ]; exact hj
  have hz : ((xs.length : Int) == 0) = false := beq_eq_false_iff_ne.2 (by omega)
  clear hj hJ hN hr hlen hn hcells hbk
  go_enter Tryd.func42, Tryd.ntmps42
  go_wp2_with (go_at_call 55; refine HJ.out.mono ?_; rintro e w1 ⟨rfl, hb⟩)
  go_ret
  exact ⟨rfl, hb⟩
theorem shape_to (op : Int) (F : Nat) (h : sh op = F) (w : World) : Calls Tryd.prog 41 #[.int .i64 op] w fun e w' => e = .returned (.int .u8 (F : Int)) ∧ Below w.heap.size w w' := by
  subst h; exact shape_any op w

theorem rg_len (n : Int) (h0 : -9223372036854775808 ≤ n) (h1 : n ≤ 9223372036854775807) : (rg n).length ≤ 22 := by
  have := Lib.itoa_length_le n h0 h1; unfold rg; simp only [List.length_cons]; omega

theorem text2 (n a b r : List UInt8) (w : World) (hr : r = n ++ ([32] ++ (a ++ ([44, 32] ++ b)))) (hn : n.length ≤ 100) (ha : a.length ≤ 100) (hb : b.length ≤ 100) :
    Calls Tryd.prog 42 #[.string ⟨n.toArray⟩, .slice (some ⟨w.heap.size, 0, none⟩) 2 2] (w.alloc (.cells #[.string ⟨a.toArray⟩, .string ⟨b.toArray⟩] 9)) fun e w' => e = .returned (.string ⟨r.toArray⟩) ∧ Below w.heap.size w w' := by
  have hj : Lib.join (([⟨a.toArray⟩, ⟨b.toArray⟩] : List ByteArray).map (·.data.toList)) [44, 32] = a ++ ([44, 32] ++ b) := join2 a b _
  refine (text_at n [⟨a.toArray⟩, ⟨b.toArray⟩] r w.heap.size _ (by rw [hr, hj]) ?_ (by simp) (by simp) (by simp) (by rw [hj]; simp only [List.length_append, List.length_cons, List.length_nil]; omega) (by omega)).mono fun e w' ⟨he, hw⟩ => ⟨he, ((Below.refl _ _).alloc (Nat.le_refl _) _).trans (hw.mono (by simp))⟩
  intro j x hx
  match j, hx with
  | 0, hx => simp at hx; subst hx; simp only [World.cell?]; rw [heap_alloc_new]; rfl
  | 1, hx => simp at hx; subst hx; simp only [World.cell?]; rw [heap_alloc_new]; rfl
  | j + 2, hx => simp at hx
theorem text3 (n a b c r : List UInt8) (w : World) (hr : r = n ++ ([32] ++ (a ++ ([44, 32] ++ (b ++ ([44, 32] ++ c)))))) (hn : n.length ≤ 100) (ha : a.length ≤ 100) (hb : b.length ≤ 100) (hc : c.length ≤ 100) :
    Calls Tryd.prog 42 #[.string ⟨n.toArray⟩, .slice (some ⟨w.heap.size, 0, none⟩) 3 3] (w.alloc (.cells #[.string ⟨a.toArray⟩, .string ⟨b.toArray⟩, .string ⟨c.toArray⟩] 9)) fun e w' => e = .returned (.string ⟨r.toArray⟩) ∧ Below w.heap.size w w' := by
  have hj : Lib.join (([⟨a.toArray⟩, ⟨b.toArray⟩, ⟨c.toArray⟩] : List ByteArray).map (·.data.toList)) [44, 32] = a ++ ([44, 32] ++ (b ++ ([44, 32] ++ c))) := join3 a b c _
  refine (text_at n [⟨a.toArray⟩, ⟨b.toArray⟩, ⟨c.toArray⟩] r w.heap.size _ (by rw [hr, hj]) ?_ (by simp) (by simp) (by simp) (by rw [hj]; simp only [List.length_append, List.length_cons, List.length_nil]; omega) (by omega)).mono fun e w' ⟨he, hw⟩ => ⟨he, ((Below.refl _ _).alloc (Nat.le_refl _) _).trans (hw.mono (by simp))⟩
  intro j x hx
  match j, hx with
  | 0, hx => simp at hx; subst hx; simp only [World.cell?]; rw [heap_alloc_new]; rfl
  | 1, hx => simp at hx; subst hx; simp only [World.cell?]; rw [heap_alloc_new]; rfl
  | 2, hx => simp at hx; subst hx; simp only [World.cell?]; rw [heap_alloc_new]; rfl
  | j + 3, hx => simp at hx
theorem name_len (op : Int) : (name op).length ≤ 100 := by
  unfold name; split
  · have := nm_length op.toNat; omega
  · simp
theorem plc_len (x : Ins) (h : Fine x) : (plc x).length ≤ 100 := by
  obtain ⟨_, ⟨ha0, ha1⟩, _, hn0, hn1⟩ := h.i64
  have := Lib.itoa_length_le x.imm hn0 hn1; have := rg_len x.rs1 ha0 ha1
  unfold plc; simp only [List.length_append, List.length_cons, List.length_nil]; omega
theorem it_len (n : Int) (h0 : -9223372036854775808 ≤ n) (h1 : n ≤ 9223372036854775807) : (Lib.itoa n).length ≤ 100 := by
  have := Lib.itoa_length_le n h0 h1; omega
theorem rg_len' (n : Int) (h0 : -9223372036854775808 ≤ n) (h1 : n ≤ 9223372036854775807) : (rg n).length ≤ 100 := by
  have := rg_len n h0 h1; omega

set_option maxRecDepth 100000 in
set_option maxHeartbeats 4000000 in
theorem printed_85 (op rd rs1 rs2 imm : Int) (hs : sh op = 85) (hF : Fine ⟨op, rd, rs1, rs2, imm⟩) (w : World) (hG : Gl w) : Calls Tryd.prog 24 #[(Ins.mk op rd rs1 rs2 imm).val] w fun e w' => e = .returned (.string ⟨(txt ⟨op, rd, rs1, rs2, imm⟩).toArray⟩) ∧ Below w.heap.size w w' := by
  obtain ⟨⟨hrd0, hrd1⟩, ⟨hrs10, hrs11⟩, ⟨hrs20, hrs21⟩, himm0, himm1⟩ := hF.i64
  have HF : Hid (Fine ⟨op, rd, rs1, rs2, imm⟩) := hF
  have HG : Hid (Gl w) := hG
  have HS : Hid (sh op = 85) := hs
  have HT : Hid (txt ⟨op, rd, rs1, rs2, imm⟩ = name op ++ ([32] ++ (rg rd ++ ([44, 32] ++ (Lib.itoa imm))))) := by
    show _ = _
    unfold txt prts; simp only []
    simp [hs, join2]
  clear hF hG hs
  go_enter Tryd.func24, Tryd.ntmps24
  go_wp2_with fail
  have HX : Hid (HeldX w op rd rs1 rs2 imm _) := HeldX.start w op rd rs1 rs2 imm 23
  refine (name_any op _ (HX.out.gl HG.out)).mono ?_
  rintro e w1 ⟨rfl, rfl⟩
  go_wp2_with fail
  refine (shape_to op 85 HS.out _).mono ?_
  rintro e w1 ⟨rfl, hb1⟩
  have HX1 : Hid (HeldX w op rd rs1 rs2 imm w1) := HX.out.below hb1
  clear HX
  have HX : Hid (HeldX w op rd rs1 rs2 imm w1) := HX1
  clear HX1 hb1
  go_wp2_with fail
  go_region_held3 (fun w' => w'.cell? ⟨w.heap.size, 0, none⟩ = some (.int .i64 op) ∧ w'.cell? ⟨w.heap.size, 1, none⟩ = some (.int .i64 rd) ∧ w'.cell? ⟨w.heap.size, 2, none⟩ = some (.int .i64 rs1) ∧ w'.cell? ⟨w.heap.size, 3, none⟩ = some (.int .i64 rs2) ∧ w'.cell? ⟨w.heap.size, 4, none⟩ = some (.int .i64 imm) ∧ Below w.heap.size w w' ∧ w.heap.size < w'.heap.size)
    ((show HeldX w op rd rs1 rs2 imm _; with_reducible (repeat (first | assumption | exact HX.out | refine HeldX.drew ?_ | refine HeldX.alloc ?_ _))))
    (first
      | (go_at_call 43; refine (register_at rd hrd0 hrd1 _ ((show HeldX w op rd rs1 rs2 imm _ by assumption).gl HG.out)).mono ?_; rintro e w3 ⟨rfl, hk⟩; have hS1 : HeldX w op rd rs1 rs2 imm w3 := HeldX.below (by assumption) hk)
      | (go_at_call 44; refine (number_at imm himm0 himm1 _ ((show HeldX w op rd rs1 rs2 imm _ by assumption).gl HG.out)).mono ?_; rintro e w3 ⟨rfl, hk⟩; have hS2 : HeldX w op rd rs1 rs2 imm w3 := HeldX.below (by assumption) hk)
      | (go_at_call 42; refine (text2 (name op) (rg rd) (Lib.itoa imm) (txt ⟨op, rd, rs1, rs2, imm⟩) _ HT.out (name_len op) (rg_len' rd hrd0 hrd1) (it_len imm himm0 himm1)).mono ?_; rintro e w4 ⟨rfl, hk⟩; have hT : HeldX w op rd rs1 rs2 imm w4 := HeldX.below (by assumption) hk))
  have hB := hT.2.2.2.2.2.1
  go_wp2
  go_ret
  exact ⟨rfl, hB⟩

set_option maxRecDepth 100000 in
set_option maxHeartbeats 4000000 in
theorem printed_74 (op rd rs1 rs2 imm : Int) (hs : sh op = 74) (hF : Fine ⟨op, rd, rs1, rs2, imm⟩) (w : World) (hG : Gl w) : Calls Tryd.prog 24 #[(Ins.mk op rd rs1 rs2 imm).val] w fun e w' => e = .returned (.string ⟨(txt ⟨op, rd, rs1, rs2, imm⟩).toArray⟩) ∧ Below w.heap.size w w' := by
  obtain ⟨⟨hrd0, hrd1⟩, ⟨hrs10, hrs11⟩, ⟨hrs20, hrs21⟩, himm0, himm1⟩ := hF.i64
  have HF : Hid (Fine ⟨op, rd, rs1, rs2, imm⟩) := hF
  have HG : Hid (Gl w) := hG
  have HS : Hid (sh op = 74) := hs
  have HT : Hid (txt ⟨op, rd, rs1, rs2, imm⟩ = name op ++ ([32] ++ (rg rd ++ ([44, 32] ++ (Lib.itoa imm))))) := by
    show _ = _
    unfold txt prts; simp only []
    simp [hs, join2]
  clear hF hG hs
  go_enter Tryd.func24, Tryd.ntmps24
  go_wp2_with fail
  have HX : Hid (HeldX w op rd rs1 rs2 imm _) := HeldX.start w op rd rs1 rs2 imm 23
  refine (name_any op _ (HX.out.gl HG.out)).mono ?_
  rintro e w1 ⟨rfl, rfl⟩
  go_wp2_with fail
  refine (shape_to op 74 HS.out _).mono ?_
  rintro e w1 ⟨rfl, hb1⟩
  have HX1 : Hid (HeldX w op rd rs1 rs2 imm w1) := HX.out.below hb1
  clear HX
  have HX : Hid (HeldX w op rd rs1 rs2 imm w1) := HX1
  clear HX1 hb1
  go_wp2_with fail
  go_region_held3 (fun w' => w'.cell? ⟨w.heap.size, 0, none⟩ = some (.int .i64 op) ∧ w'.cell? ⟨w.heap.size, 1, none⟩ = some (.int .i64 rd) ∧ w'.cell? ⟨w.heap.size, 2, none⟩ = some (.int .i64 rs1) ∧ w'.cell? ⟨w.heap.size, 3, none⟩ = some (.int .i64 rs2) ∧ w'.cell? ⟨w.heap.size, 4, none⟩ = some (.int .i64 imm) ∧ Below w.heap.size w w' ∧ w.heap.size < w'.heap.size)
    ((show HeldX w op rd rs1 rs2 imm _; with_reducible (repeat (first | assumption | exact HX.out | refine HeldX.drew ?_ | refine HeldX.alloc ?_ _))))
    (first
      | (go_at_call 43; refine (register_at rd hrd0 hrd1 _ ((show HeldX w op rd rs1 rs2 imm _ by assumption).gl HG.out)).mono ?_; rintro e w3 ⟨rfl, hk⟩; have hS1 : HeldX w op rd rs1 rs2 imm w3 := HeldX.below (by assumption) hk)
      | (go_at_call 44; refine (number_at imm himm0 himm1 _ ((show HeldX w op rd rs1 rs2 imm _ by assumption).gl HG.out)).mono ?_; rintro e w3 ⟨rfl, hk⟩; have hS2 : HeldX w op rd rs1 rs2 imm w3 := HeldX.below (by assumption) hk)
      | (go_at_call 42; refine (text2 (name op) (rg rd) (Lib.itoa imm) (txt ⟨op, rd, rs1, rs2, imm⟩) _ HT.out (name_len op) (rg_len' rd hrd0 hrd1) (it_len imm himm0 himm1)).mono ?_; rintro e w4 ⟨rfl, hk⟩; have hT : HeldX w op rd rs1 rs2 imm w4 := HeldX.below (by assumption) hk))
  have hB := hT.2.2.2.2.2.1
  go_wp2
  go_ret
  exact ⟨rfl, hB⟩

set_option maxRecDepth 100000 in
set_option maxHeartbeats 4000000 in
theorem printed_82 (op rd rs1 rs2 imm : Int) (hs : sh op = 82) (hF : Fine ⟨op, rd, rs1, rs2, imm⟩) (w : World) (hG : Gl w) : Calls Tryd.prog 24 #[(Ins.mk op rd rs1 rs2 imm).val] w fun e w' => e = .returned (.string ⟨(txt ⟨op, rd, rs1, rs2, imm⟩).toArray⟩) ∧ Below w.heap.size w w' := by
  obtain ⟨⟨hrd0, hrd1⟩, ⟨hrs10, hrs11⟩, ⟨hrs20, hrs21⟩, himm0, himm1⟩ := hF.i64
  have HF : Hid (Fine ⟨op, rd, rs1, rs2, imm⟩) := hF
  have HG : Hid (Gl w) := hG
  have HS : Hid (sh op = 82) := hs
  have HT : Hid (txt ⟨op, rd, rs1, rs2, imm⟩ = name op ++ ([32] ++ (rg rd ++ ([44, 32] ++ (rg rs1 ++ ([44, 32] ++ (rg rs2))))))) := by
    show _ = _
    unfold txt prts; simp only []
    simp [hs, join3]
  clear hF hG hs
  go_enter Tryd.func24, Tryd.ntmps24
  go_wp2_with fail
  have HX : Hid (HeldX w op rd rs1 rs2 imm _) := HeldX.start w op rd rs1 rs2 imm 23
  refine (name_any op _ (HX.out.gl HG.out)).mono ?_
  rintro e w1 ⟨rfl, rfl⟩
  go_wp2_with fail
  refine (shape_to op 82 HS.out _).mono ?_
  rintro e w1 ⟨rfl, hb1⟩
  have HX1 : Hid (HeldX w op rd rs1 rs2 imm w1) := HX.out.below hb1
  clear HX
  have HX : Hid (HeldX w op rd rs1 rs2 imm w1) := HX1
  clear HX1 hb1
  go_wp2_with fail
  go_region_held3 (fun w' => w'.cell? ⟨w.heap.size, 0, none⟩ = some (.int .i64 op) ∧ w'.cell? ⟨w.heap.size, 1, none⟩ = some (.int .i64 rd) ∧ w'.cell? ⟨w.heap.size, 2, none⟩ = some (.int .i64 rs1) ∧ w'.cell? ⟨w.heap.size, 3, none⟩ = some (.int .i64 rs2) ∧ w'.cell? ⟨w.heap.size, 4, none⟩ = some (.int .i64 imm) ∧ Below w.heap.size w w' ∧ w.heap.size < w'.heap.size)
    ((show HeldX w op rd rs1 rs2 imm _; with_reducible (repeat (first | assumption | exact HX.out | refine HeldX.drew ?_ | refine HeldX.alloc ?_ _))))
    (first
      | (go_at_call 43; refine (register_at rd hrd0 hrd1 _ ((show HeldX w op rd rs1 rs2 imm _ by assumption).gl HG.out)).mono ?_; rintro e w3 ⟨rfl, hk⟩; have hS1 : HeldX w op rd rs1 rs2 imm w3 := HeldX.below (by assumption) hk)
      | (go_at_call 43; refine (register_at rs1 hrs10 hrs11 _ ((show HeldX w op rd rs1 rs2 imm _ by assumption).gl HG.out)).mono ?_; rintro e w3 ⟨rfl, hk⟩; have hS2 : HeldX w op rd rs1 rs2 imm w3 := HeldX.below (by assumption) hk)
      | (go_at_call 43; refine (register_at rs2 hrs20 hrs21 _ ((show HeldX w op rd rs1 rs2 imm _ by assumption).gl HG.out)).mono ?_; rintro e w3 ⟨rfl, hk⟩; have hS3 : HeldX w op rd rs1 rs2 imm w3 := HeldX.below (by assumption) hk)
      | (go_at_call 42; refine (text3 (name op) (rg rd) (rg rs1) (rg rs2) (txt ⟨op, rd, rs1, rs2, imm⟩) _ HT.out (name_len op) (rg_len' rd hrd0 hrd1) (rg_len' rs1 hrs10 hrs11) (rg_len' rs2 hrs20 hrs21)).mono ?_; rintro e w4 ⟨rfl, hk⟩; have hT : HeldX w op rd rs1 rs2 imm w4 := HeldX.below (by assumption) hk))
  have hB := hT.2.2.2.2.2.1
  go_wp2
  go_ret
  exact ⟨rfl, hB⟩

set_option maxRecDepth 100000 in
set_option maxHeartbeats 4000000 in
theorem printed_66 (op rd rs1 rs2 imm : Int) (hs : sh op = 66) (hF : Fine ⟨op, rd, rs1, rs2, imm⟩) (w : World) (hG : Gl w) : Calls Tryd.prog 24 #[(Ins.mk op rd rs1 rs2 imm).val] w fun e w' => e = .returned (.string ⟨(txt ⟨op, rd, rs1, rs2, imm⟩).toArray⟩) ∧ Below w.heap.size w w' := by
  obtain ⟨⟨hrd0, hrd1⟩, ⟨hrs10, hrs11⟩, ⟨hrs20, hrs21⟩, himm0, himm1⟩ := hF.i64
  have HF : Hid (Fine ⟨op, rd, rs1, rs2, imm⟩) := hF
  have HG : Hid (Gl w) := hG
  have HS : Hid (sh op = 66) := hs
  have HT : Hid (txt ⟨op, rd, rs1, rs2, imm⟩ = name op ++ ([32] ++ (rg rs1 ++ ([44, 32] ++ (rg rs2 ++ ([44, 32] ++ (Lib.itoa imm))))))) := by
    show _ = _
    unfold txt prts; simp only []
    simp [hs, join3]
  clear hF hG hs
  go_enter Tryd.func24, Tryd.ntmps24
  go_wp2_with fail
  have HX : Hid (HeldX w op rd rs1 rs2 imm _) := HeldX.start w op rd rs1 rs2 imm 23
  refine (name_any op _ (HX.out.gl HG.out)).mono ?_
  rintro e w1 ⟨rfl, rfl⟩
  go_wp2_with fail
  refine (shape_to op 66 HS.out _).mono ?_
  rintro e w1 ⟨rfl, hb1⟩
  have HX1 : Hid (HeldX w op rd rs1 rs2 imm w1) := HX.out.below hb1
  clear HX
  have HX : Hid (HeldX w op rd rs1 rs2 imm w1) := HX1
  clear HX1 hb1
  go_wp2_with fail
  go_region_held3 (fun w' => w'.cell? ⟨w.heap.size, 0, none⟩ = some (.int .i64 op) ∧ w'.cell? ⟨w.heap.size, 1, none⟩ = some (.int .i64 rd) ∧ w'.cell? ⟨w.heap.size, 2, none⟩ = some (.int .i64 rs1) ∧ w'.cell? ⟨w.heap.size, 3, none⟩ = some (.int .i64 rs2) ∧ w'.cell? ⟨w.heap.size, 4, none⟩ = some (.int .i64 imm) ∧ Below w.heap.size w w' ∧ w.heap.size < w'.heap.size)
    ((show HeldX w op rd rs1 rs2 imm _; with_reducible (repeat (first | assumption | exact HX.out | refine HeldX.drew ?_ | refine HeldX.alloc ?_ _))))
    (first
      | (go_at_call 43; refine (register_at rs1 hrs10 hrs11 _ ((show HeldX w op rd rs1 rs2 imm _ by assumption).gl HG.out)).mono ?_; rintro e w3 ⟨rfl, hk⟩; have hS1 : HeldX w op rd rs1 rs2 imm w3 := HeldX.below (by assumption) hk)
      | (go_at_call 43; refine (register_at rs2 hrs20 hrs21 _ ((show HeldX w op rd rs1 rs2 imm _ by assumption).gl HG.out)).mono ?_; rintro e w3 ⟨rfl, hk⟩; have hS2 : HeldX w op rd rs1 rs2 imm w3 := HeldX.below (by assumption) hk)
      | (go_at_call 44; refine (number_at imm himm0 himm1 _ ((show HeldX w op rd rs1 rs2 imm _ by assumption).gl HG.out)).mono ?_; rintro e w3 ⟨rfl, hk⟩; have hS3 : HeldX w op rd rs1 rs2 imm w3 := HeldX.below (by assumption) hk)
      | (go_at_call 42; refine (text3 (name op) (rg rs1) (rg rs2) (Lib.itoa imm) (txt ⟨op, rd, rs1, rs2, imm⟩) _ HT.out (name_len op) (rg_len' rs1 hrs10 hrs11) (rg_len' rs2 hrs20 hrs21) (it_len imm himm0 himm1)).mono ?_; rintro e w4 ⟨rfl, hk⟩; have hT : HeldX w op rd rs1 rs2 imm w4 := HeldX.below (by assumption) hk))
  have hB := hT.2.2.2.2.2.1
  go_wp2
  go_ret
  exact ⟨rfl, hB⟩

set_option maxRecDepth 100000 in
set_option maxHeartbeats 4000000 in
theorem printed_83 (op rd rs1 rs2 imm : Int) (hs : sh op = 83) (hF : Fine ⟨op, rd, rs1, rs2, imm⟩) (w : World) (hG : Gl w) : Calls Tryd.prog 24 #[(Ins.mk op rd rs1 rs2 imm).val] w fun e w' => e = .returned (.string ⟨(txt ⟨op, rd, rs1, rs2, imm⟩).toArray⟩) ∧ Below w.heap.size w w' := by
  obtain ⟨⟨hrd0, hrd1⟩, ⟨hrs10, hrs11⟩, ⟨hrs20, hrs21⟩, himm0, himm1⟩ := hF.i64
  have HF : Hid (Fine ⟨op, rd, rs1, rs2, imm⟩) := hF
  have HG : Hid (Gl w) := hG
  have HS : Hid (sh op = 83) := hs
  have HT : Hid (txt ⟨op, rd, rs1, rs2, imm⟩ = name op ++ ([32] ++ (rg rs2 ++ ([44, 32] ++ (plc ⟨op, rd, rs1, rs2, imm⟩))))) := by
    show _ = _
    unfold txt prts; simp only []
    simp [hs, join2]
  clear hF hG hs
  go_enter Tryd.func24, Tryd.ntmps24
  go_wp2_with fail
  have HX : Hid (HeldX w op rd rs1 rs2 imm _) := HeldX.start w op rd rs1 rs2 imm 23
  refine (name_any op _ (HX.out.gl HG.out)).mono ?_
  rintro e w1 ⟨rfl, rfl⟩
  go_wp2_with fail
  refine (shape_to op 83 HS.out _).mono ?_
  rintro e w1 ⟨rfl, hb1⟩
  have HX1 : Hid (HeldX w op rd rs1 rs2 imm w1) := HX.out.below hb1
  clear HX
  have HX : Hid (HeldX w op rd rs1 rs2 imm w1) := HX1
  clear HX1 hb1
  go_wp2_with fail
  go_region_held3 (fun w' => w'.cell? ⟨w.heap.size, 0, none⟩ = some (.int .i64 op) ∧ w'.cell? ⟨w.heap.size, 1, none⟩ = some (.int .i64 rd) ∧ w'.cell? ⟨w.heap.size, 2, none⟩ = some (.int .i64 rs1) ∧ w'.cell? ⟨w.heap.size, 3, none⟩ = some (.int .i64 rs2) ∧ w'.cell? ⟨w.heap.size, 4, none⟩ = some (.int .i64 imm) ∧ Below w.heap.size w w' ∧ w.heap.size < w'.heap.size)
    ((show HeldX w op rd rs1 rs2 imm _; with_reducible (repeat (first | assumption | exact HX.out | refine HeldX.drew ?_ | refine HeldX.alloc ?_ _))))
    (first
      | (go_at_call 43; refine (register_at rs2 hrs20 hrs21 _ ((show HeldX w op rd rs1 rs2 imm _ by assumption).gl HG.out)).mono ?_; rintro e w3 ⟨rfl, hk⟩; have hS1 : HeldX w op rd rs1 rs2 imm w3 := HeldX.below (by assumption) hk)
      | (go_at_call 45; refine (place_at ⟨op, rd, rs1, rs2, imm⟩ HF.out _ ((show HeldX w op rd rs1 rs2 imm _ by assumption).gl HG.out)).mono ?_; rintro e w3 ⟨rfl, hk⟩; have hS2 : HeldX w op rd rs1 rs2 imm w3 := HeldX.below (by assumption) hk)
      | (go_at_call 42; refine (text2 (name op) (rg rs2) (plc ⟨op, rd, rs1, rs2, imm⟩) (txt ⟨op, rd, rs1, rs2, imm⟩) _ HT.out (name_len op) (rg_len' rs2 hrs20 hrs21) (plc_len _ HF.out)).mono ?_; rintro e w4 ⟨rfl, hk⟩; have hT : HeldX w op rd rs1 rs2 imm w4 := HeldX.below (by assumption) hk))
  have hB := hT.2.2.2.2.2.1
  go_wp2
  go_ret
  exact ⟨rfl, hB⟩

set_option maxRecDepth 100000 in
set_option maxHeartbeats 4000000 in
theorem printed_77 (op rd rs1 rs2 imm : Int) (hs : sh op = 77) (hF : Fine ⟨op, rd, rs1, rs2, imm⟩) (w : World) (hG : Gl w) : Calls Tryd.prog 24 #[(Ins.mk op rd rs1 rs2 imm).val] w fun e w' => e = .returned (.string ⟨(txt ⟨op, rd, rs1, rs2, imm⟩).toArray⟩) ∧ Below w.heap.size w w' := by
  obtain ⟨⟨hrd0, hrd1⟩, ⟨hrs10, hrs11⟩, ⟨hrs20, hrs21⟩, himm0, himm1⟩ := hF.i64
  have HF : Hid (Fine ⟨op, rd, rs1, rs2, imm⟩) := hF
  have HG : Hid (Gl w) := hG
  have HS : Hid (sh op = 77) := hs
  have HT : Hid (txt ⟨op, rd, rs1, rs2, imm⟩ = name op ++ ([32] ++ (rg rd ++ ([44, 32] ++ (plc ⟨op, rd, rs1, rs2, imm⟩))))) := by
    show _ = _
    unfold txt prts; simp only []
    simp [hs, join2]
  clear hF hG hs
  go_enter Tryd.func24, Tryd.ntmps24
  go_wp2_with fail
  have HX : Hid (HeldX w op rd rs1 rs2 imm _) := HeldX.start w op rd rs1 rs2 imm 23
  refine (name_any op _ (HX.out.gl HG.out)).mono ?_
  rintro e w1 ⟨rfl, rfl⟩
  go_wp2_with fail
  refine (shape_to op 77 HS.out _).mono ?_
  rintro e w1 ⟨rfl, hb1⟩
  have HX1 : Hid (HeldX w op rd rs1 rs2 imm w1) := HX.out.below hb1
  clear HX
  have HX : Hid (HeldX w op rd rs1 rs2 imm w1) := HX1
  clear HX1 hb1
  go_wp2_with fail
  go_region_held3 (fun w' => w'.cell? ⟨w.heap.size, 0, none⟩ = some (.int .i64 op) ∧ w'.cell? ⟨w.heap.size, 1, none⟩ = some (.int .i64 rd) ∧ w'.cell? ⟨w.heap.size, 2, none⟩ = some (.int .i64 rs1) ∧ w'.cell? ⟨w.heap.size, 3, none⟩ = some (.int .i64 rs2) ∧ w'.cell? ⟨w.heap.size, 4, none⟩ = some (.int .i64 imm) ∧ Below w.heap.size w w' ∧ w.heap.size < w'.heap.size)
    ((show HeldX w op rd rs1 rs2 imm _; with_reducible (repeat (first | assumption | exact HX.out | refine HeldX.drew ?_ | refine HeldX.alloc ?_ _))))
    (first
      | (go_at_call 43; refine (register_at rd hrd0 hrd1 _ ((show HeldX w op rd rs1 rs2 imm _ by assumption).gl HG.out)).mono ?_; rintro e w3 ⟨rfl, hk⟩; have hS1 : HeldX w op rd rs1 rs2 imm w3 := HeldX.below (by assumption) hk)
      | (go_at_call 45; refine (place_at ⟨op, rd, rs1, rs2, imm⟩ HF.out _ ((show HeldX w op rd rs1 rs2 imm _ by assumption).gl HG.out)).mono ?_; rintro e w3 ⟨rfl, hk⟩; have hS2 : HeldX w op rd rs1 rs2 imm w3 := HeldX.below (by assumption) hk)
      | (go_at_call 42; refine (text2 (name op) (rg rd) (plc ⟨op, rd, rs1, rs2, imm⟩) (txt ⟨op, rd, rs1, rs2, imm⟩) _ HT.out (name_len op) (rg_len' rd hrd0 hrd1) (plc_len _ HF.out)).mono ?_; rintro e w4 ⟨rfl, hk⟩; have hT : HeldX w op rd rs1 rs2 imm w4 := HeldX.below (by assumption) hk))
  have hB := hT.2.2.2.2.2.1
  go_wp2
  go_ret
  exact ⟨rfl, hB⟩

set_option maxRecDepth 100000 in
set_option maxHeartbeats 4000000 in
theorem printed_73 (op rd rs1 rs2 imm : Int) (hs : sh op = 73) (hF : Fine ⟨op, rd, rs1, rs2, imm⟩) (w : World) (hG : Gl w) : Calls Tryd.prog 24 #[(Ins.mk op rd rs1 rs2 imm).val] w fun e w' => e = .returned (.string ⟨(txt ⟨op, rd, rs1, rs2, imm⟩).toArray⟩) ∧ Below w.heap.size w w' := by
  obtain ⟨⟨hrd0, hrd1⟩, ⟨hrs10, hrs11⟩, ⟨hrs20, hrs21⟩, himm0, himm1⟩ := hF.i64
  have HF : Hid (Fine ⟨op, rd, rs1, rs2, imm⟩) := hF
  have HG : Hid (Gl w) := hG
  have HS : Hid (sh op = 73) := hs
  have HT : Hid (txt ⟨op, rd, rs1, rs2, imm⟩ = name op ++ ([32] ++ (rg rd ++ ([44, 32] ++ (rg rs1 ++ ([44, 32] ++ (Lib.itoa imm))))))) := by
    show _ = _
    unfold txt prts; simp only []
    simp [hs, join3]
  clear hF hG hs
  go_enter Tryd.func24, Tryd.ntmps24
  go_wp2_with fail
  have HX : Hid (HeldX w op rd rs1 rs2 imm _) := HeldX.start w op rd rs1 rs2 imm 23
  refine (name_any op _ (HX.out.gl HG.out)).mono ?_
  rintro e w1 ⟨rfl, rfl⟩
  go_wp2_with fail
  refine (shape_to op 73 HS.out _).mono ?_
  rintro e w1 ⟨rfl, hb1⟩
  have HX1 : Hid (HeldX w op rd rs1 rs2 imm w1) := HX.out.below hb1
  clear HX
  have HX : Hid (HeldX w op rd rs1 rs2 imm w1) := HX1
  clear HX1 hb1
  go_wp2_with fail
  go_region_held3 (fun w' => w'.cell? ⟨w.heap.size, 0, none⟩ = some (.int .i64 op) ∧ w'.cell? ⟨w.heap.size, 1, none⟩ = some (.int .i64 rd) ∧ w'.cell? ⟨w.heap.size, 2, none⟩ = some (.int .i64 rs1) ∧ w'.cell? ⟨w.heap.size, 3, none⟩ = some (.int .i64 rs2) ∧ w'.cell? ⟨w.heap.size, 4, none⟩ = some (.int .i64 imm) ∧ Below w.heap.size w w' ∧ w.heap.size < w'.heap.size)
    ((show HeldX w op rd rs1 rs2 imm _; with_reducible (repeat (first | assumption | exact HX.out | refine HeldX.drew ?_ | refine HeldX.alloc ?_ _))))
    (first
      | (go_at_call 43; refine (register_at rd hrd0 hrd1 _ ((show HeldX w op rd rs1 rs2 imm _ by assumption).gl HG.out)).mono ?_; rintro e w3 ⟨rfl, hk⟩; have hS1 : HeldX w op rd rs1 rs2 imm w3 := HeldX.below (by assumption) hk)
      | (go_at_call 43; refine (register_at rs1 hrs10 hrs11 _ ((show HeldX w op rd rs1 rs2 imm _ by assumption).gl HG.out)).mono ?_; rintro e w3 ⟨rfl, hk⟩; have hS2 : HeldX w op rd rs1 rs2 imm w3 := HeldX.below (by assumption) hk)
      | (go_at_call 44; refine (number_at imm himm0 himm1 _ ((show HeldX w op rd rs1 rs2 imm _ by assumption).gl HG.out)).mono ?_; rintro e w3 ⟨rfl, hk⟩; have hS3 : HeldX w op rd rs1 rs2 imm w3 := HeldX.below (by assumption) hk)
      | (go_at_call 42; refine (text3 (name op) (rg rd) (rg rs1) (Lib.itoa imm) (txt ⟨op, rd, rs1, rs2, imm⟩) _ HT.out (name_len op) (rg_len' rd hrd0 hrd1) (rg_len' rs1 hrs10 hrs11) (it_len imm himm0 himm1)).mono ?_; rintro e w4 ⟨rfl, hk⟩; have hT : HeldX w op rd rs1 rs2 imm w4 := HeldX.below (by assumption) hk))
  have hB := hT.2.2.2.2.2.1
  go_wp2
  go_ret
  exact ⟨rfl, hB⟩

set_option maxRecDepth 100000 in
set_option maxHeartbeats 4000000 in
theorem printed_72 (op rd rs1 rs2 imm : Int) (hs : sh op = 72) (hF : Fine ⟨op, rd, rs1, rs2, imm⟩) (w : World) (hG : Gl w) : Calls Tryd.prog 24 #[(Ins.mk op rd rs1 rs2 imm).val] w fun e w' => e = .returned (.string ⟨(txt ⟨op, rd, rs1, rs2, imm⟩).toArray⟩) ∧ Below w.heap.size w w' := by
  obtain ⟨⟨hrd0, hrd1⟩, ⟨hrs10, hrs11⟩, ⟨hrs20, hrs21⟩, himm0, himm1⟩ := hF.i64
  have HF : Hid (Fine ⟨op, rd, rs1, rs2, imm⟩) := hF
  have HG : Hid (Gl w) := hG
  have HS : Hid (sh op = 72) := hs
  have HT : Hid (txt ⟨op, rd, rs1, rs2, imm⟩ = name op ++ ([32] ++ (rg rd ++ ([44, 32] ++ (rg rs1 ++ ([44, 32] ++ (Lib.itoa imm))))))) := by
    show _ = _
    unfold txt prts; simp only []
    simp [hs, join3]
  clear hF hG hs
  go_enter Tryd.func24, Tryd.ntmps24
  go_wp2_with fail
  have HX : Hid (HeldX w op rd rs1 rs2 imm _) := HeldX.start w op rd rs1 rs2 imm 23
  refine (name_any op _ (HX.out.gl HG.out)).mono ?_
  rintro e w1 ⟨rfl, rfl⟩
  go_wp2_with fail
  refine (shape_to op 72 HS.out _).mono ?_
  rintro e w1 ⟨rfl, hb1⟩
  have HX1 : Hid (HeldX w op rd rs1 rs2 imm w1) := HX.out.below hb1
  clear HX
  have HX : Hid (HeldX w op rd rs1 rs2 imm w1) := HX1
  clear HX1 hb1
  go_wp2_with fail
  go_region_held3 (fun w' => w'.cell? ⟨w.heap.size, 0, none⟩ = some (.int .i64 op) ∧ w'.cell? ⟨w.heap.size, 1, none⟩ = some (.int .i64 rd) ∧ w'.cell? ⟨w.heap.size, 2, none⟩ = some (.int .i64 rs1) ∧ w'.cell? ⟨w.heap.size, 3, none⟩ = some (.int .i64 rs2) ∧ w'.cell? ⟨w.heap.size, 4, none⟩ = some (.int .i64 imm) ∧ Below w.heap.size w w' ∧ w.heap.size < w'.heap.size)
    ((show HeldX w op rd rs1 rs2 imm _; with_reducible (repeat (first | assumption | exact HX.out | refine HeldX.drew ?_ | refine HeldX.alloc ?_ _))))
    (first
      | (go_at_call 43; refine (register_at rd hrd0 hrd1 _ ((show HeldX w op rd rs1 rs2 imm _ by assumption).gl HG.out)).mono ?_; rintro e w3 ⟨rfl, hk⟩; have hS1 : HeldX w op rd rs1 rs2 imm w3 := HeldX.below (by assumption) hk)
      | (go_at_call 43; refine (register_at rs1 hrs10 hrs11 _ ((show HeldX w op rd rs1 rs2 imm _ by assumption).gl HG.out)).mono ?_; rintro e w3 ⟨rfl, hk⟩; have hS2 : HeldX w op rd rs1 rs2 imm w3 := HeldX.below (by assumption) hk)
      | (go_at_call 44; refine (number_at imm himm0 himm1 _ ((show HeldX w op rd rs1 rs2 imm _ by assumption).gl HG.out)).mono ?_; rintro e w3 ⟨rfl, hk⟩; have hS3 : HeldX w op rd rs1 rs2 imm w3 := HeldX.below (by assumption) hk)
      | (go_at_call 42; refine (text3 (name op) (rg rd) (rg rs1) (Lib.itoa imm) (txt ⟨op, rd, rs1, rs2, imm⟩) _ HT.out (name_len op) (rg_len' rd hrd0 hrd1) (rg_len' rs1 hrs10 hrs11) (it_len imm himm0 himm1)).mono ?_; rintro e w4 ⟨rfl, hk⟩; have hT : HeldX w op rd rs1 rs2 imm w4 := HeldX.below (by assumption) hk))
  have hB := hT.2.2.2.2.2.1
  go_wp2
  go_ret
  exact ⟨rfl, hB⟩

set_option maxRecDepth 100000 in
theorem printed_69 (op rd rs1 rs2 imm : Int) (hs : sh op = 69) (w : World) (hG : Gl w) : Calls Tryd.prog 24 #[(Ins.mk op rd rs1 rs2 imm).val] w fun e w' => e = .returned (.string ⟨(txt ⟨op, rd, rs1, rs2, imm⟩).toArray⟩) ∧ Below w.heap.size w w' := by
  have HG : Hid (Gl w) := hG
  have HS : Hid (sh op = 69) := hs
  have HT : txt ⟨op, rd, rs1, rs2, imm⟩ = name op := by unfold txt prts; simp [hs]
  rw [HT]
  clear hG hs HT
  go_enter Tryd.func24, Tryd.ntmps24
  go_wp2_with fail
  have HX : Hid (HeldX w op rd rs1 rs2 imm _) := HeldX.start w op rd rs1 rs2 imm 23
  refine (name_any op _ (HX.out.gl HG.out)).mono ?_
  rintro e w1 ⟨rfl, rfl⟩
  go_wp2_with fail
  refine (shape_to op 69 HS.out _).mono ?_
  rintro e w1 ⟨rfl, hb1⟩
  have HX1 : Hid (HeldX w op rd rs1 rs2 imm w1) := HX.out.below hb1
  clear HX hb1
  go_wp2_with (go_at_call 42; refine (text_none (name op) _).mono ?_; rintro e w2 ⟨rfl, rfl⟩)
  go_ret
  exact ⟨rfl, HX1.out.2.2.2.2.2.1⟩
theorem printed_any (x : Ins) (h : x.ok = true) (w : World) (hG : Gl w) : Calls Tryd.prog 24 #[x.val] w fun e w' => e = .returned (.string ⟨(txt x).toArray⟩) ∧ Below w.heap.size w w' := by
  have hF := fine_of h
  have hS := shape_of h
  cases x with
  | mk op rd rs1 rs2 imm =>
  rcases hS with ⟨e, a, b⟩ | ⟨e, n⟩ | ⟨e, d⟩ | ⟨e, d⟩ | ⟨e, b⟩ | ⟨e, b⟩ | ⟨e, d, a, b, n⟩
  · rcases e with e | e
    · exact printed_85 op rd rs1 rs2 imm e hF w hG
    · exact printed_74 op rd rs1 rs2 imm e hF w hG
  · exact printed_82 op rd rs1 rs2 imm e hF w hG
  · exact printed_66 op rd rs1 rs2 imm e hF w hG
  · exact printed_83 op rd rs1 rs2 imm e hF w hG
  · exact printed_77 op rd rs1 rs2 imm e hF w hG
  · rcases e with e | e
    · exact printed_73 op rd rs1 rs2 imm e hF w hG
    · exact printed_72 op rd rs1 rs2 imm e hF w hG
  · exact printed_69 op rd rs1 rs2 imm e w hG
def prV (x : Ins) : List UInt8 := if x.ok = true then txt x else []
def prE (x : Ins) : Int := if x.ok = true then 0 else 20
theorem ret_si {a b : List UInt8} {c d : Int} (h : a = b) (h2 : c = d) : Ending.returned (.tuple #[.string ⟨a.toArray⟩, .int .i64 c]) = .returned (.tuple #[.string ⟨b.toArray⟩, .int .i64 d]) := by rw [h, h2]
theorem print_any (x : Ins) (w : World) (hG : Gl w) : Calls Tryd.prog 9 #[x.val] w fun e w' => e = .returned (.tuple #[.string ⟨(prV x).toArray⟩, .int .i64 (prE x)]) ∧ Below w.heap.size w w' := by
  have HG : Hid (Gl w) := hG
  clear hG
  cases x with
  | mk op rd rs1 rs2 imm =>
  cases h : (Ins.mk op rd rs1 rs2 imm).ok
  · have H : Hid (right op rd rs1 rs2 imm = false) := h
    have e1 : prV ⟨op, rd, rs1, rs2, imm⟩ = [] := by unfold prV; rw [h]; rfl
    have e2 : prE ⟨op, rd, rs1, rs2, imm⟩ = 20 := by unfold prE; rw [h]; rfl
    rw [e1, e2]
    clear h e1 e2
    go_enter Tryd.func9, Tryd.ntmps9
    go_wp2_with fail
    refine (right_any op rd rs1 rs2 imm _).mono ?_
    rintro e w1 ⟨he, hb⟩
    rw [H.out] at he; subst he
    have hB : Below w.heap.size w w1 := ((Below.refl _ _).alloc (Nat.le_refl _) _).trans (hb.mono (by simp))
    clear hb
    go_wp2
    go_ret2
    exact ⟨rfl, hB⟩
  · have H : Hid (right op rd rs1 rs2 imm = true) := h
    have e1 : prV ⟨op, rd, rs1, rs2, imm⟩ = txt ⟨op, rd, rs1, rs2, imm⟩ := by unfold prV; rw [h]; rfl
    have e2 : prE ⟨op, rd, rs1, rs2, imm⟩ = 0 := by unfold prE; rw [h]; rfl
    rw [e1, e2]
    clear h e1 e2
    go_enter Tryd.func9, Tryd.ntmps9
    go_wp2_with fail
    have HX : Hid (HeldX w op rd rs1 rs2 imm _) := HeldX.start w op rd rs1 rs2 imm 23
    refine (right_any op rd rs1 rs2 imm _).mono ?_
    rintro e w1 ⟨he, hb⟩
    rw [H.out] at he; subst he
    have HX1 := HX.out.below hb
    clear HX hb
    obtain ⟨x0, x1, x2, x3, x4, hB, hs⟩ := HX1
    go_wp2_with fail
    refine (printed_any ⟨op, rd, rs1, rs2, imm⟩ H.out _ (HG.out.grow hB)).mono ?_
    rintro e w2 ⟨rfl, hb⟩
    have hB2 : Below w.heap.size w w2 := hB.trans (hb.mono (by omega))
    clear hb hB x0 x1 x2 x3 x4 hs
    go_wp2
    go_ret2
    exact ⟨rfl, hB2⟩
end Go.Proofs.YtdjladaefoedfaaDoor
