/-
  Contract of package asm's Lines.
-/
import Derived.Shelf.Strings.Builder1
import Derived.Test.YtdjladaefoedfaaDoorZA5
namespace Go.Proofs.YtdjladaefoedfaaDoor
open Go.RowKit Ip As Go.Lib Go.Shelf

def wcRen : Go.Shelf.Ren := ⟨fun | 167 => 34 | 240 => 53 | 276 => 60 | n => n, fun | 70 => 54 | 0 => 0 | 4 => 4 | 9 => 9 | 20 => 20 | 72 => 57 | 37 => 55 | 164 => 87 | 5 => 5 | 75 => 59 | 80 => 63 | n => n, fun | n => n⟩
theorem wcLays : Lays.n167 Tryd.prog wcRen := {
  mixed := by kernel_rfl
  f167 := Tryd.func34.trans (congrArg some (by kernel_rfl))
  f240 := Tryd.func53.trans (congrArg some (by kernel_rfl))
  f276 := Tryd.func60.trans (congrArg some (by kernel_rfl))
  t0 := Tryd.underlying0
  a0 := Tryd.isAgg0
  z0 := Tryd.sizeOf0
  v0 := Tryd.zeroValue0
  t4 := Tryd.underlying4
  a4 := Tryd.isAgg4
  z4 := Tryd.sizeOf4
  v4 := Tryd.zeroValue4
  t5 := Tryd.underlying5
  a5 := Tryd.isAgg5
  z5 := Tryd.sizeOf5
  v5 := Tryd.zeroValue5
  t9 := Tryd.underlying9
  a9 := Tryd.isAgg9
  z9 := Tryd.sizeOf9
  v9 := Tryd.zeroValue9
  t20 := Tryd.underlying20
  a20 := Tryd.isAgg20
  z20 := Tryd.sizeOf20
  v20 := Tryd.zeroValue20
  t37 := Tryd.underlying55
  a37 := Tryd.isAgg55
  z37 := Tryd.sizeOf55
  v37 := Tryd.zeroValue55
  t70 := Tryd.underlying54
  a70 := Tryd.isAgg54
  z70 := Tryd.sizeOf54
  v70 := Tryd.zeroValue54
  t72 := Tryd.underlying57
  a72 := Tryd.isAgg57
  z72 := Tryd.sizeOf57
  v72 := Tryd.zeroValue57
  t75 := Tryd.underlying59
  a75 := Tryd.isAgg59
  z75 := Tryd.sizeOf59
  v75 := Tryd.zeroValue59
  t164 := Tryd.underlying87
  a164 := Tryd.isAgg87
  z164 := Tryd.sizeOf87
  v164 := Tryd.zeroValue87 }
theorem wcExtra : Builder.Extra Tryd.prog wcRen := {
  sizeBuilder := by kernel_rfl
  liesBuilder := by kernel_rfl
  t5 := Tryd.underlying5
  a5 := Tryd.isAgg5
  z5 := Tryd.sizeOf5
  v5 := Tryd.zeroValue5
  infoByte := by kernel_rfl
  cellsByte := by kernel_rfl
  sizeByte := by kernel_rfl
  neB5 := by decide }
theorem wbyte (B b : Nat) (bs : List Value) (c : Int) (w : World) (h : Lib.IsBuilder 57 5 B b bs w) (hlen : bs.length + 1 ≤ 140737488355328) (hBw : B ≤ w.heap.size) :
    Calls Tryd.prog 34 #[.pointer (some ⟨b, 0, none⟩), .int .u8 c] w fun e w' => e = .returned .nilIface ∧ (Lib.BuilderAt 57 5 B b (.pointer (some ⟨b, 0, none⟩)) (bs ++ [.int .u8 c]) w' ∧ Below B w w') :=
  Any.Builder_WriteByte wcLays wcExtra B b bs c w h hlen hBw
theorem wstr (B b : Nat) (bs : List Value) (s : ByteArray) (w : World) (h : Lib.IsBuilder 57 5 B b bs w) (hlen : bs.length + s.size ≤ 140737488355328) (hBw : B ≤ w.heap.size) :
    Calls Tryd.prog 33 #[.pointer (some ⟨b, 0, none⟩), .string s] w fun e w' => e = .returned (.tuple #[.int .i64 s.size, .nilIface]) ∧ (Lib.BuilderAt 57 5 B b (.pointer (some ⟨b, 0, none⟩)) (bs ++ Lib.strCells s) w' ∧ Below B w w') :=
  Any.Builder_WriteString (ρ := Tryd.lays156_ren) { Tryd.lays156 with } Tryd.Builder_Extra_156 B b bs s w h hlen hBw
theorem builder_below {T e : TypeId} {B b : Nat} {bs : List Value} {w w' : World} (h : Lib.IsBuilder T e B b bs w) (hb : Below w.heap.size w w') : Lib.IsBuilder T e B b bs w' := by
  have at' : ∀ p, Lib.BuilderAt T e B b p bs w → Lib.BuilderAt T e B b p bs w' := fun p ⟨h1, v, h2, h3, h4⟩ => ⟨h1, v, by rw [hb.block _ (Array.getElem?_eq_some_iff.1 h2).1]; exact h2, ownA_below h3 hb, h4⟩
  rcases h with h | h
  · exact .inl (at' _ h)
  · exact .inr (at' _ h)

def lnV (l : List Ins) : List UInt8 := if l.all (·.ok) = true then flat l else []
def lnE (l : List Ins) : Int := if l.all (·.ok) = true then 0 else 20
theorem ln_bad {l : List Ins} {k : Nat} {x : Ins} (hx : l[k]? = some x) (hk : x.ok = false) : lnV l = [] ∧ lnE l = 20 := by
  have h : l.all (·.ok) = false := by
    rw [List.all_eq_false]; exact ⟨x, List.mem_of_getElem? hx, by rw [hk]; simp⟩
  unfold lnV lnE; rw [h]; exact ⟨rfl, rfl⟩
theorem ln_good {l : List Ins} (h : ∀ (j : Nat) (x : Ins), l[j]? = some x → x.ok = true) : lnV l = flat l ∧ lnE l = 0 := by
  have h : l.all (·.ok) = true := List.all_eq_true.2 fun x hx => by
    obtain ⟨j, hj⟩ := List.getElem?_of_mem hx
    exact h j x hj
  unfold lnV lnE; rw [h]; exact ⟨rfl, rfl⟩
theorem txt_lenA (x : Ins) (h : Fine x) : (txt x).length ≤ 1000 := by
  obtain ⟨⟨d0, d1⟩, ⟨a0, a1⟩, ⟨b0, b1⟩, n0, n1⟩ := h.i64
  have e1 := rg_len x.rd d0 d1
  have e2 := rg_len x.rs1 a0 a1
  have e3 := rg_len x.rs2 b0 b1
  have e4 := Lib.itoa_length_le x.imm n0 n1
  have e5 := name_len x.op
  have e6 := plc_len x h
  unfold txt As.prts
  (repeat' split) <;> first
    | omega
    | (rw [join2]; simp only [List.length_append, List.length_cons, List.length_nil]; omega)
    | (rw [join3]; simp only [List.length_append, List.length_cons, List.length_nil]; omega)
    | (exfalso; simp_all)
theorem flat_take (l : List Ins) (k : Nat) (x : Ins) (h : l[k]? = some x) : flat (l.take (k + 1)) = flat (l.take k) ++ (txt x ++ [10]) := by
  rw [List.take_add_one, h, flat_app]; simp [flat]
theorem flat_len (l : List Ins) (h : ∀ x ∈ l, x.ok = true) : (flat l).length ≤ l.length * 1001 := by
  induction l with
  | nil => simp [flat]
  | cons x l ih =>
    have := ih (fun y hy => h y (List.mem_cons_of_mem _ hy))
    have h2 := txt_lenA x (fine_of (h x List.mem_cons_self))
    simp only [flat, List.length_append, List.length_cons, List.length_nil]; omega
theorem strCells_to (l : List UInt8) : Lib.strCells ⟨l.toArray⟩ = Lib.byteCells l := rfl
theorem byteCells_app (a b : List UInt8) : Lib.byteCells (a ++ b) = Lib.byteCells a ++ Lib.byteCells b := by unfold Lib.byteCells; simp

set_option maxHeartbeats 4000000 in
set_option maxRecDepth 100000 in
theorem lines_core (l : List Ins) (g o c : Nat) (hl : l.length ≤ 1000) (w : World) (hg : g < w.heap.size) (hc : ∀ j, j < l.length * 5 → w.cell? ⟨g, o + j, none⟩ = (csOf l)[j]?) (hG : Gl w) :
    Calls Tryd.prog 18 #[.slice (some ⟨g, o, none⟩) l.length c] w fun e w' => e = .returned (.tuple #[.string ⟨(lnV l).toArray⟩, .int .i64 (lnE l)]) ∧ Below w.heap.size w w' := by
  have HG : Hid (Gl w) := hG
  have HC : Hid (∀ j, j < l.length * 5 → w.cell? ⟨g, o + j, none⟩ = (csOf l)[j]?) := hc
  have hz := zeroX
  clear hG hc
  go_enter Tryd.func18, Tryd.ntmps18
  go_wp2
  go_loopg [11] l.length (fun q i wr => ∃ k : Nat, k + q = l.length ∧ i = .int .i64 (k : Int) ∧ (∀ (j : Nat) (x : Ins), j < k → l[j]? = some x → x.ok = true) ∧ Lib.IsBuilder 57 5 w.heap.size w.heap.size (Lib.byteCells (flat (l.take k))) wr ∧ Below w.heap.size w wr)
  case atStart => exact ⟨0, by omega, rfl, fun j x hj => absurd hj (by omega), Lib.fresh_isBuilder _ _ w, (Below.refl _ _).alloc (Nat.le_refl _) _⟩
  case round =>
    obtain ⟨k, hkq, rfl, hok, hB, hb⟩ := hrel
    have HO : Hid (∀ (j : Nat) (x : Ins), j < k → l[j]? = some x → x.ok = true) := hok
    have HB : Hid (Lib.IsBuilder 57 5 w.heap.size w.heap.size (Lib.byteCells (flat (l.take k))) wr) := hB
    clear hok hB
    cases gk with
    | zero =>
      obtain rfl : k = l.length := by omega
      have hk : ¬ ((l.length : Int) < (l.length : Int)) := by omega
      have HST := hideA (Tryd.Builder_String_any w.heap.size w.heap.size (flat (l.take l.length)) wr HB.out hb.size)
      go_wp2_with (go_at_call 35; refine HST.out.mono ?_; rintro e w2 ⟨rfl, hb2⟩)
      go_ret2
      have e := ln_good (l := l) (fun j x hj => HO.out j x (List.getElem?_eq_some_iff.1 hj).1 hj)
      rw [e.1, e.2]
      exact ⟨rfl, hb.trans hb2⟩
    | succ q =>
      have hk : ((k : Int) < (l.length : Int)) := by omega
      have hk0 : (0 : Int) ≤ (k : Int) := by omega
      have hwk : IntKind.i64.wrap ((k : Int) + 1) = (k : Int) + 1 := wr64 (by omega) (by omega)
      obtain ⟨x, hx⟩ : ∃ x, l[k]? = some x := ⟨l[k]'(by omega), List.getElem?_eq_getElem (by omega)⟩
      have hcell : ∀ (p : Nat), wr.cell? ⟨g, p, none⟩ = w.cell? ⟨g, p, none⟩ := fun p => by simp only [World.cell?, hb.block g hg]
      obtain ⟨a0, a1, a2, a3, a4⟩ := SlA.at HC.out k x hx
      rw [← hcell] at a0 a1 a2 a3 a4
      have Hx : Hid (l[k]? = some x) := hx
      clear hx hcell
      cases x with
      | mk op rd rs1 rs2 imm =>
      simp only [] at a0 a1 a2 a3 a4
      go_wp2_with fail
      have hbA : Below w.heap.size w (wr.alloc (.cells #[.int .i64 op, .int .i64 rd, .int .i64 rs1, .int .i64 rs2, .int .i64 imm] 23)) := hb.alloc hb.size _
      have hBA := builder_below HB.out ((Below.refl _ wr).alloc (Nat.le_refl _) (.cells #[.int .i64 op, .int .i64 rd, .int .i64 rs1, .int .i64 rs2, .int .i64 imm] 23))
      cases hok : (Ins.mk op rd rs1 rs2 imm).ok
      · refine (print_no ⟨op, rd, rs1, rs2, imm⟩ hok _ (HG.out.grow hbA)).mono ?_
        rintro e w2 ⟨rfl, hb2⟩
        have hb02 := hbA.trans (hb2.mono hbA.size)
        have e := ln_bad Hx.out hok
        have He : Hid (lnV l = [] ∧ lnE l = 20) := e
        clear hb2 e hok hBA hbA a0 a1 a2 a3 a4
        go_wp2_with fail
        go_ret2
        rw [He.out.1, He.out.2]
        exact ⟨rfl, hb02⟩
      · have htl := txt_lenA _ (fine_of hok)
        refine (print_yes ⟨op, rd, rs1, rs2, imm⟩ _ hok rfl _ (HG.out.grow hbA)).mono ?_
        rintro e w2 ⟨rfl, hb2⟩
        have hb02 := hbA.trans (hb2.mono hbA.size)
        have hB2 := builder_below hBA hb2
        have hfl : (flat (l.take k)).length ≤ 1000000 + 1000 := by
          have := flat_len (l.take k) (fun y hy => by
            obtain ⟨j, hj⟩ := List.getElem?_of_mem hy
            have hjk : j < k := by have := (List.getElem?_eq_some_iff.1 hj).1; simp at this; omega
            rw [List.getElem?_take_of_lt hjk] at hj
            exact HO.out j y hjk hj)
          simp at this; omega
        have hbl := Lib.byteCells_length (flat (l.take k))
        have HW1 := hideA (wstr w.heap.size w.heap.size (Lib.byteCells (flat (l.take k))) ⟨(txt ⟨op, rd, rs1, rs2, imm⟩).toArray⟩ w2 hB2 (by rw [hbl]; show _ + (txt _).length ≤ _; omega) hb02.size)
        have Hok : Hid ((Ins.mk op rd rs1 rs2 imm).ok = true) := hok
        clear hb2 hok hBA hbA a0 a1 a2 a3 a4 hB2
        go_wp2_with fail
        refine HW1.out.mono ?_
        rintro e w3 ⟨rfl, hB3, hb3⟩
        rw [strCells_to, ← byteCells_app] at hB3
        have hb03 := hb02.trans hb3
        have hbl2 := Lib.byteCells_length (flat (l.take k) ++ txt ⟨op, rd, rs1, rs2, imm⟩)
        rw [List.length_append] at hbl2
        have HW2 := hideA (wbyte w.heap.size w.heap.size (Lib.byteCells (flat (l.take k) ++ txt ⟨op, rd, rs1, rs2, imm⟩)) 10 w3 (.inr hB3) (by rw [hbl2]; omega) hb03.size)
        clear hB3 hb3 hbl hbl2 hfl htl
        go_wp2_with fail
        refine HW2.out.mono ?_
        rintro e w4 ⟨rfl, hB4, hb4⟩
        have hb04 := hb03.trans hb4
        go_wp2_with fail
        go_roundg q
        case measure => omega
        case rel =>
          refine ⟨k + 1, by omega, by simp, fun j x hj hx => ?_, .inr ?_, hb04⟩
          · by_cases hjk : j = k
            · subst hjk; rw [Hx.out] at hx; injection hx with hx; rw [← hx]; exact Hok.out
            · exact HO.out j x (by omega) hx
          · rw [flat_take l k _ Hx.out, ← List.append_assoc, byteCells_app]; exact hB4

set_option maxHeartbeats 4000000 in
set_option maxRecDepth 100000 in
theorem lines_nil (p : Option Addr) (c : Nat) (w : World) : Calls Tryd.prog 18 #[.slice p 0 c] w fun e w' => e = .returned (.tuple #[.string ⟨#[]⟩, .int .i64 0]) ∧ Below w.heap.size w w' := by
  go_enter Tryd.func18, Tryd.ntmps18
  go_wp2
  have HST := hideA (Tryd.Builder_String_any w.heap.size w.heap.size [] _ (Lib.fresh_isBuilder 57 5 w) (by simp))
  go_loopw [11] (fun i wr => i = .int .i64 0 ∧ wr = w.alloc (.cells #[.pointer none, .slice none 0 0] 57)) (fun _ _ => 0)
  case atStart => exact ⟨rfl, rfl⟩
  case round =>
    obtain ⟨rfl, hw⟩ := hrel
    rw [hw]
    clear hw
    go_wp2_with (go_at_call 35; refine HST.out.mono ?_; rintro e w2 ⟨rfl, hb2⟩)
    go_ret2
    exact ⟨rfl, ((Below.refl _ _).alloc (Nat.le_refl _) _).trans hb2⟩
theorem lines_any (v : Value) (l : List Ins) (hl : l.length ≤ 1000) (w : World) (hS : SlA w v l) (hG : Gl w) :
    Calls Tryd.prog 18 #[v] w fun e w' => e = .returned (.tuple #[.string ⟨(lnV l).toArray⟩, .int .i64 (lnE l)]) ∧ Below w.heap.size w w' := by
  rcases hS with ⟨p, c, rfl, rfl⟩ | ⟨g, o, c, rfl, hg, hc⟩
  · exact lines_nil p c w
  · exact lines_core l g o c hl w hg hc hG
end Go.Proofs.YtdjladaefoedfaaDoor
