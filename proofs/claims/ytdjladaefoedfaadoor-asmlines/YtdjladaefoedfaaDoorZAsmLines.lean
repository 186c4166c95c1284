/-
  AsmLines (P5.2, R4): the lines of any instructions, and the instructions of any lines, are as the document says; what is told is its owner's; for every input (the law reads at most 40 instructions and 600 bytes).
  The walk of AsmLines.
-/
import Derived.Test.YtdjladaefoedfaaDoorRows
import Derived.Test.YtdjladaefoedfaaDoorTie
import Derived.Test.YtdjladaefoedfaaDoorCards
import Derived.WalkKit
import Derived.ProofKit
import Derived.OpenShut
import Derived.Carry
import Derived.ChangeMaps
import Derived.SevenTiedAt
import Derived.Test.YtdjladaefoedfaaDoorZA6
import Derived.Test.YtdjladaefoedfaaDoorZA7
import Derived.Test.YtdjladaefoedfaaDoorZB3
namespace Go.Proofs.YtdjladaefoedfaaDoor
open Go.RowKit Ip As Go.Lib

theorem cut_take600 (s : ByteArray) : s.extract 0 (min (s.size : Int) 600).toNat = ⟨(s.data.toList.take 600).toArray⟩ := by
  rw [ext_take]
  congr 2
  have : s.data.toList.length = s.size := (Lib.size_eq s).symm
  by_cases h : s.size ≤ 600
  · rw [List.take_of_length_le (by omega), List.take_of_length_le (by omega)]
  · rw [show (min (s.size : Int) 600).toNat = 600 by omega]
theorem take_min40 (l : List Ins) (m : Nat) (hm : m = min l.length 40) : l.take m = l.take 40 := by
  rw [hm]
  by_cases h : l.length ≤ 40
  · rw [Nat.min_eq_left h, List.take_length, List.take_of_length_le h]
  · rw [Nat.min_eq_right (by omega)]
theorem rd_len : ∀ (n : Nat) (l : List UInt8) (m : List Ins), l.length ≤ n → rd l = some m → m.length ≤ l.length
  | 0, l, m, hl, h => by
    have : l = [] := List.length_eq_zero_iff.1 (by omega)
    subst this; rw [rd_nil] at h; injection h with h; subst h; simp
  | n + 1, l, m, hl, h => by
    by_cases h0 : l = []
    · subst h0; rw [rd_nil] at h; injection h with h; subst h; simp
    · rw [rd_step l h0] at h
      by_cases hi : Lib.indexByte l 10 < 0
      · rw [if_pos hi] at h; cases h
      · rw [if_neg hi] at h
        have hb := (behind_lt l hi).1
        cases hp : prs (upTo 10 l) with
        | none => rw [hp] at h; cases h
        | some x =>
          rw [hp] at h
          cases hr : rd (behind 10 l) with
          | none => rw [hr] at h; cases h
          | some m' =>
            have := rd_len n (behind 10 l) m' (by omega) hr
            rw [hr] at h; simp at h; subst h; simp; omega
theorem rdV_len (l : List UInt8) : (rdV l).length ≤ l.length := by
  unfold rdV
  cases h : rd l with
  | none => simp
  | some m => exact rd_len l.length l m (Nat.le_refl _) h
/-- A row of instructions that is written into. -/
structure Spoilt (w : World) (g n : Nat) (W : World) : Prop where
  row : 0 < n → w.heap.size ≤ g ∧ ∃ cs, W.heap[g]? = some (.cells cs 23 (0, 0)) ∧ n * 5 ≤ cs.size
  low : Below w.heap.size w W
theorem Spoilt.below {w W W' : World} {g n : Nat} (h : Spoilt w g n W) (hb : Below W.heap.size W W') : Spoilt w g n W' :=
  ⟨fun hn => let ⟨a, cs, b, c⟩ := h.row hn; ⟨a, cs, kept hb b, c⟩, h.low.trans (hb.mono h.low.size)⟩
theorem Spoilt.put {w W : World} {g n : Nat} (h : Spoilt w g n W) (j : Nat) (hj : 0 < n) (v : Value) : Spoilt w g n (W.setCell ⟨g, j, none⟩ v) := by
  obtain ⟨hg, cs, h1, h2⟩ := h.row hj
  exact ⟨fun _ => ⟨hg, cs.setIfInBounds j v, heap_setCell_same W g j cs _ v h1, by simpa using h2⟩, h.low.setCell hg v⟩
theorem Spoilt.cell {w W : World} {g n : Nat} (h : Spoilt w g n W) (k : Nat) (hk : k < n) : (∃ u, W.cell? ⟨g, k * 5 + 1, none⟩ = some u) ∧ W.frozen? ⟨g, k * 5 + 1, none⟩ = false := by
  obtain ⟨_, cs, h1, h2⟩ := h.row (by omega)
  refine ⟨?_, by simp only [World.frozen?]; rw [h1]; simp⟩
  refine ⟨cs[k * 5 + 1]'(by omega), ?_⟩
  simp only [World.cell?]; rw [h1]; exact Array.getElem?_eq_getElem (by omega)
theorem Spoilt.of {w W W' : World} {B n : Nat} {v : Value} {xs : List Value} (h : W.ownsRow B 23 5 v n xs) (hB : w.heap.size ≤ B) (hb : Below w.heap.size w W') (hk : Below W.heap.size W W') :
    ∃ g p c, v = .slice p n c ∧ (0 < n → p = some ⟨g, 0, none⟩) ∧ Spoilt w g n W' := by
  rcases h.2 with ⟨h1, h0⟩ | ⟨g, cap, cur, h1, hg, hc, hn, _, hs, _⟩
  · exact ⟨0, none, 0, by rw [h1, h0], fun h => by omega, fun h => by omega, hb⟩
  · exact ⟨g, _, cap, h1, fun _ => rfl, fun _ => ⟨by omega, cur, kept hk hc, by rw [hs]; exact Nat.mul_le_mul_right 5 hn⟩, hb⟩

set_option maxHeartbeats 8000000 in
set_option maxRecDepth 100000 in
theorem asmLines_at (p : Option Addr) (c : Nat) (l : List Ins) (s : ByteArray) (T : List UInt8) (hT : s.extract 0 (min (s.size : Int) 600).toNat = ⟨T.toArray⟩) (hTl : T.length ≤ 600) (w : World) (hG : Gl w) (hS : SlA w (.slice p l.length c) l) (hc : l.length ≤ c) :
    Calls Tryd.prog 5 #[.slice p l.length c, .string s] w fun e w' => e = .returned (.bool true) ∧ Below w.heap.size w w' := by
  have HG : Hid (Gl w) := hG
  obtain ⟨m, hm⟩ : ∃ m, m = min l.length 40 := ⟨_, rfl⟩
  have hmi : min (l.length : Int) 40 = (m : Int) := by omega
  have hm0 : (0 : Int) ≤ (m : Int) := by omega
  have hmc : (m : Int) ≤ (c : Int) := by omega
  have hS1 := hS.cut m (by omega)
  have hLm : (l.take m).length = m := by simp; omega
  generalize hL : l.take m = L at hS1 hLm
  have HS : Hid (SlA w (.slice p m c) L) := hS1
  have hm40 : m ≤ 40 := by omega
  have HL := hideA (lines_any (.slice p m c) L (by omega))
  have HL' := hideA (rlines_any (.slice p m c) L (by omega))
  have HR := hideA (fun W g => read_any ⟨T.toArray⟩ (by show T.length ≤ _; omega) W g)
  have HR' := hideA (fun W => rread_any T (by omega) W)
  generalize lnV L = F at HL HL'
  generalize lnE L = x1 at HL HL'
  obtain ⟨n, V, hV⟩ : ∃ (n : Int) (V : List Ins), rdE T = n ∧ rdV T = V := ⟨_, _, rfl, rfl⟩
  have HRa : Hid (∀ W, Gl W → Calls Tryd.prog 20 #[.string ⟨T.toArray⟩] W fun e w' => ∃ v, e = .returned (.tuple #[v, .int .i64 n]) ∧ w'.ownsRow W.heap.size 23 5 v V.length (csOf V) ∧ Below W.heap.size W w') := fun W g => by
    have := HR.out W g
    rw [show (⟨T.toArray⟩ : ByteArray).data.toList = T from rfl, hV.1, hV.2] at this; exact this
  have HRb : Hid (∀ W, Calls Tryd.prog 21 #[.string ⟨T.toArray⟩] W fun e w' => ∃ v, e = .returned (.tuple #[v, .int .i64 n]) ∧ w'.ownsRow W.heap.size 23 5 v V.length (csOf V) ∧ Below W.heap.size W w') := fun W => by
    have := HR'.out W
    rw [hV.1, hV.2] at this; exact this
  have hVl : V.length ≤ 1000000 := by
    have := rdV_len T
    rw [hV.2] at this; omega
  clear hG hS hS1 hm hc hL HR HR' hV
  go_enter Tryd.func5, Tryd.ntmps5
  go_wp2_with fail
  refine (HL.out w HS.out HG.out).mono ?_
  rintro e w1 ⟨rfl, hb1⟩
  go_wp2_with fail
  refine (HL'.out w1 (HS.out.below hb1)).mono ?_
  rintro e w2 ⟨rfl, hb2⟩
  have hb02 := hb1.trans (hb2.mono hb1.size)
  clear hb1 hb2
  go_wp2_with fail
  go_loopg [9] 2 (fun q i wr => ∃ k : Nat, k + q = 2 ∧ i = .int .i64 (k : Int) ∧ Below w.heap.size w wr)
  case atStart => exact ⟨0, rfl, rfl, hb02⟩
  case round =>
    obtain ⟨k, hkq, rfl, hb⟩ := hrel
    obtain ⟨wo, hwo⟩ : ∃ wo, wo = wr := ⟨_, rfl⟩
    subst hwo
    cases gk with
    | zero =>
      obtain rfl : k = 2 := by omega
      go_wp2_with (go_at_call 11; refine (fixed5_any _ (HG.out.grow hb)).mono ?_; rintro e w7 ⟨rfl, hb7⟩)
      go_ret
      exact ⟨rfl, hb.trans (hb7.mono hb.size)⟩
    | succ q =>
      have hk2 : ((k : Int) < 2) := by omega
      have hwk : IntKind.i64.wrap ((k : Int) + 1) = (k : Int) + 1 := wr64 (by omega) (by omega)
      go_wp2_with fail
      refine (HRa.out _ (HG.out.grow hb)).mono ?_
      rintro e w3 ⟨va, rfl, hoa, hb3⟩
      have hb03 := hb.trans (hb3.mono hb.size)
      go_wp2_with fail
      refine (HRb.out _).mono ?_
      rintro e w4 ⟨vb, rfl, hob, hb4⟩
      have hb04 := hb03.trans (hb4.mono hb03.size)
      have HSa := hideA ((SlA.of_owns hoa).below hb4)
      have HSb := hideA (SlA.of_owns hob)
      have HSm := hideA (same_any va vb V V _ HSa.out HSb.out hVl)
      obtain ⟨g, pa, ca, rfl, hpa, hsp⟩ := Spoilt.of (w := w) hoa hb.size hb04 hb4
      obtain ⟨pb, cb, rfl⟩ := SlA.len HSb.out
      clear hb4 hb3 hoa hob HSa HSb
      go_wp2_with (go_at_call 22; refine HSm.out.mono ?_; rintro e w5 ⟨he, hb5⟩; simp only [decide_true] at he; subst he)
      go_loopw [14] (fun i wx => ∃ j : Nat, j ≤ V.length ∧ i = .int .i64 (j : Int) ∧ Spoilt w g V.length wx) (fun i _ => ((V.length : Int) - Go.RowKit.intOf i).toNat)
      case atStart => exact ⟨0, by omega, rfl, hsp.below hb5⟩
      case round =>
        obtain ⟨j, hj, rfl, hs⟩ := hrel
        by_cases hjl : j < V.length
        · have hj1 : ((j : Int) < (V.length : Int)) := by omega
          have hj0 : (0 : Int) ≤ (j : Int) := by omega
          have hwj : IntKind.i64.wrap ((j : Int) + 1) = (j : Int) + 1 := wr64 (by omega) (by omega)
          obtain rfl := hpa (by omega)
          obtain ⟨⟨u, hu⟩, hf⟩ := hs.cell j hjl
          have HSp := hideA hs
          clear hs
          go_wp2_with fail
          go_roundw
          case measure => show ((V.length : Int) - ((j : Int) + 1)).toNat < ((V.length : Int) - (j : Int)).toNat; omega
          exact ⟨j + 1, by omega, by simp, HSp.out.put _ (by omega) _⟩
        · have hj1 : ¬ ((j : Int) < (V.length : Int)) := by omega
          go_wp2_with fail
          go_roundg q
          case measure => omega
          case rel => exact ⟨k + 1, by omega, by simp, hs.low⟩
theorem asmLines_walk (p : Option Addr) (c : Nat) (l : List Ins) (s : ByteArray) (w : World) (hG : Gl w) (hS : SlA w (.slice p l.length c) l) (hc : l.length ≤ c) (_ : c ≤ 9223372036854775807) (_ : s.size ≤ 9223372036854775807) :
    Calls Tryd.prog 5 #[.slice p l.length c, .string s] w fun e w' => e = .returned (.bool true) ∧ Below w.heap.size w w' :=
  asmLines_at p c l s (s.data.toList.take 600) (cut_take600 s) (by simp; omega) w hG hS hc
end Go.Proofs.YtdjladaefoedfaaDoor
namespace Go.Proofs.YtdjladaefoedfaaDoor.asmLines
open Go.ChangeShapes Go.WideShapes Go.ChangeAt Go.RowKit Ip As
open Go.ChangeMaps (open_string shut_string)
set_option linter.unusedVariables false

theorem own : ownKnob Tryd.prog.godebug = none := by kernel_rfl

set_option maxRecDepth 100000 in
theorem lifted (os : Os) (started : os.Started) (H : Type) (enc : TypeId × Value → H) :
    ReturnsInHanded {} Tryd.checked os 5 .any (fun w args => (Rows.asmLinesSpec.pre enc Tryd.prog Tryd.f5 [] false w args ∧ laidMetH Tryd.prog laid5 w) ∧ sizedMet enc Tryd.prog Tryd.f5 (OpenSpec.ofChange Rows.asmLinesSpec) false w args)
      (Rows.asmLinesSpec.post enc Tryd.prog Tryd.f5 false true false false) := by
  refine returnsInHanded_of_change_and (C := Tryd.checked) (X := fun w _ => laidMetH Tryd.prog laid5 w) (fun _ _ _ hh h => h.of_heap hh) own started (by kernel_rfl) Tryd.func5
    (ChangeSpec.witness_shaped (enc := enc) (C := Tryd.checked) (os := os) (X := fun w _ => laidMetH Tryd.prog laid5 w) false (World.doorLaid Tryd.prog 400 os) #[.slice none 0 0, .string ⟨#[]⟩] 8 rfl (World.shaped_of_RefB (by kernel_rfl) (by kernel_rfl)) (by kernel_rfl) (by kernel_rfl) (by kernel_rfl) (door_met os _)) ?_
  intro W base args ds gs before hval0 hW _ hsz0 hL _
  have hG := gl_of_laid hL
  have hval : ∀ (j : Nat) t v, Tryd.f5.params[j]? = some t → args[j]? = some v → Value.okWide Tryd.prog W .any base t v := hval0
  have hW' := hW
  obtain ⟨p, q, hA0, hV, rfl, hfz, hnd⟩ := hW
  have hA : DataW.TrodAll enc Tryd.prog W 0 (fun _ => true) true Tryd.f5.params.toList args.toList ds p := hA0
  rw [Tryd.params5] at hA hval
  obtain ⟨v0, vs0, d0, ds0, p0, q0, hargs, rfl, rfl, h0, r0⟩ := trodAll_cons hA
  obtain ⟨v1, vs1, d1, ds1, p1, q1, rfl, rfl, rfl, h1, r1⟩ := trodAll_cons r0
  obtain ⟨rfl, rfl, rfl⟩ := trodAll_nil r1
  obtain rfl : args = #[v0, v1] := by cases args; simp_all
  obtain ⟨rfl, rfl⟩ := trodVars_none hV
  have hlt : ∀ x ∈ p0 ++ p1, x.block < W.heap.size := fun x hx => by simpa using hW'.lt x (by simpa using hx)
  have k0 := h0
  have l0 : ∀ x ∈ p0, x.block < W.heap.size := fun x hx => hlt x (by simp [hx])
  have k1 := h1
  have l1 : ∀ x ∈ p1, x.block < W.heap.size := fun x hx => hlt x (by simp [hx])
  obtain ⟨pi0, ci0, li0, rfl, hsl0, hcp0, hln0⟩ := open_insts (hval 0 34 v0 rfl rfl) h0
  obtain ⟨s1, rfl, rfl, rfl, w1⟩ := open_string Tryd.underlying9 (hval 1 9 v1 rfl rfl) h1
  have b1 : s1.size ≤ 9223372036854775807 := by unfold maxLen at w1; omega
  clear hA0 hval0
  refine (asmLines_walk pi0 ci0 li0 s1 W hG hsl0 hcp0 hln0 b1).mono fun e W' ⟨he, hg⟩ => ?_
  subst he
  exact ⟨_, rfl, _, _, _, [], _, [], hW', trodAll_mk1 (shut_bool Tryd.underlying4 _), (trodAll_cons_mk (Below.trod laidOut5 (by kernel_rfl) (of_decide_eq_true (by kernel_rfl)) k0 hg l0) (trodAll_cons_mk (Below.trod laidOut5 (by kernel_rfl) (of_decide_eq_true (by kernel_rfl)) k1 hg l1) trodAll_mk0)), rfl, hg.frame _, fun h => by cases h⟩

theorem over : Rows.asmLinesRow.holds Tryd.pinned (OpenSpec.ofChange Rows.asmLinesSpec) :=
  OpenClaim.holds_of_wide 5 Tryd.f5 rfl rfl rfl rfl rfl rfl rfl ⟨rfl, rfl, rfl, rfl, rfl⟩ rfl rfl rfl rfl rfl (by kernel_rfl) Tryd.func5 (by kernel_rfl)
    (of_decide_eq_true (by kernel_rfl)) (by unfold Func.isWrapper; first | (rw [if_pos (by decide +kernel)]; kernel_rfl) | (rw [if_neg (by decide +kernel)]; exact ⟨rfl, rfl⟩))
    (fun os started H enc _ => lifted os started H enc)

theorem proved : Rows.AsmLinesCardSaid :=
  Claim7.holds_tied_plain_at .later [] [.data, .data, .data, .sentinel, .sentinel, .data] true Rows.asmLinesCard.stood.harness true
    over (fun _ h => by cases h) (by kernel_rfl) (fun _ h => by cases h) asmLines_row_tie rfl ⟨rfl, rfl⟩ (by kernel_rfl) rfl
    (fun f fn hf hfn => by
      obtain rfl : f = 5 := Option.some.inj ((show Tryd.prog.funcNamed "whetstone/whetstonelaw05.AsmLines" = some 5 by kernel_rfl).symm.trans hf) |>.symm
      obtain rfl : fn = Tryd.f5 := (Option.some.inj (Tryd.func5.symm.trans hfn)).symm
      exact ⟨by kernel_rfl, fun j t ht => by
        rw [Tryd.params5] at ht
        have hm : t ∈ [34, 9] := by simpa using Array.mem_of_getElem? ht
        have hall : ([34, 9].all fun u => !Tryd.prog.wantsStandIn u) = true := by kernel_rfl
        exact (show Tryd.prog.wantsStandIn t = false by simpa using List.all_eq_true.1 hall t hm)⟩)
    (by kernel_rfl)
#print axioms proved
end Go.Proofs.YtdjladaefoedfaaDoor.asmLines
