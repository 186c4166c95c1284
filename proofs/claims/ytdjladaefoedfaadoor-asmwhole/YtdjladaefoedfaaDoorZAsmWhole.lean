/-
  AsmWhole (P5.2, P5.3): the lines of instructions are read as these; lines behind lines are both; for every input (the law reads at most 30 instructions of each). What the listed package variables hold is tied to the program by the card.
  The walk of AsmWhole.
-/
import Derived.Laws.AppendOwnNone
import Derived.Test.YtdjladaefoedfaaDoorRows
import Derived.Test.YtdjladaefoedfaaDoorTie
import Derived.Test.YtdjladaefoedfaaDoorCards
import Derived.WalkKit
import Derived.ProofKit
import Derived.OpenShut
import Derived.Carry
import Derived.ChangeMaps
import Derived.SevenTiedAt
import Derived.Test.YtdjladaefoedfaaDoorZA6
import Derived.Test.YtdjladaefoedfaaDoorZA7
import Derived.Test.YtdjladaefoedfaaDoorZA9
namespace Go.Proofs.YtdjladaefoedfaaDoor
open Go.RowKit Ip As Go.Lib
open Classical

theorem addr_at (g o j : Nat) : (⟨g, o, none⟩ : Addr).add j = ⟨g, o + j, none⟩ := by
  unfold Addr.add
  by_cases h : j = 0 <;> simp [h]
theorem csOf_one (l : List Ins) : ∀ u ∈ csOf l, u.oneCell' = true := by
  intro u hu
  unfold csOf at hu
  obtain ⟨x, _, hx⟩ := List.mem_flatMap.1 hu
  simp at hx
  rcases hx with rfl | rfl | rfl | rfl | rfl <;> rfl
theorem wpList_append_ins {w : World} {ops : Array Oper} {rest : List Oper} {o : Oper} {a : Act} {Q : Exit → Act → World → Prop} (hgd : o.guard = none) (s x : Operand)
    (ho : o.op = .call { callee := .builtin .append, args := #[s, x], argTypes := #[34, 34] }) (base : Nat) (v : Value) (n : Nat) (xs : List Value) (hs : a.eval s = v) (hown : w.ownsRow base 23 5 v n xs)
    (av : Value) (L : List Ins) (hx : a.eval x = av) (hS : SlA w av L) (hnil : ∀ m c, av = .slice none m c → c = 0) (hb : n + L.length ≤ 100000) (hbase : base ≤ w.heap.size)
    (h : ∀ v' w', w'.ownsRow base 23 5 v' (n + L.length) (xs ++ csOf L) → w.grownBy w' v.ownBlock → wpList Tryd.prog ops Q rest (a.put o.dst v') w') : wpList Tryd.prog ops Q (o :: rest) a w := by
  obtain ⟨i0, hi, hz0, hz1, hz2⟩ := info_partsA infoX
  rcases hS with ⟨p, c, rfl, rfl⟩ | ⟨g, of, cap, rfl, hg, hc⟩
  · cases p with
    | none =>
      obtain rfl := hnil _ _ rfl
      refine wpList_append_own_none hgd s x 34 ho base 23 i0 5 Tryd.underlying34 hi v n xs hs hown hx (h v w (by simpa [csOf] using hown) ⟨rfl, rfl, rfl, Nat.le_refl _, fun _ _ _ => rfl⟩)
    | some ad =>
      exact wpList_append_own (w := w) hgd s x 34 ho base 23 i0 _ 5 40 Tryd.underlying34 hi hz0 hz1 hz2 rfl (by decide) v n xs hs hown ad 0 c [] hx rfl (fun j u hj => by simp at hj) (fun u hu => by simp at hu) (by unfold maxLen; simp at hb; omega) (by simp at hb; omega) hbase fun v' w' h1 h2 _ => h v' w' (by simpa [csOf] using h1) h2
  · exact wpList_append_own (w := w) hgd s x 34 ho base 23 i0 _ 5 40 Tryd.underlying34 hi hz0 hz1 hz2 rfl (by decide) v n xs hs hown ⟨g, of, none⟩ L.length cap (csOf L) hx (csOf_len L) (fun j u hj => by
      have hjl := (List.getElem?_eq_some_iff.1 hj).1
      rw [csOf_len] at hjl
      rw [addr_at, hc j hjl]; exact hj) (csOf_one L) (by unfold maxLen; omega) (by omega) hbase fun v' w' h1 h2 _ => h v' w' h1 h2
theorem take_minW (l : List Ins) (m : Nat) (K : Nat) (hm : m = min l.length K) : l.take m = l.take K := by
  rw [hm]
  by_cases h : l.length ≤ K
  · rw [Nat.min_eq_left h, List.take_length, List.take_of_length_le h]
  · rw [Nat.min_eq_right (by omega)]

set_option maxHeartbeats 8000000 in
set_option maxRecDepth 100000 in
theorem asmWhole_good (p : Option Addr) (c : Nat) (l : List Ins) (p' : Option Addr) (c' : Nat) (l' : List Ins) (w : World) (hG : Gl w) (hS : SlA w (.slice p l.length c) l) (hc : l.length ≤ c) (hnil : ∀ d, Value.slice p l.length c = .slice none l.length d → d = 0) (hS' : SlA w (.slice p' l'.length c') l') (hc' : l'.length ≤ c') (hnil' : ∀ d, Value.slice p' l'.length c' = .slice none l'.length d → d = 0)
    (hk : (l.take 30).all (·.ok) = true) (hk' : (l'.take 30).all (·.ok) = true) :
    Calls Tryd.prog 7 #[.slice p l.length c, .slice p' l'.length c'] w fun e w' => e = .returned (.bool true) ∧ Below w.heap.size w w' := by
  have HG : Hid (Gl w) := hG
  obtain ⟨m, hm⟩ : ∃ m, m = min l.length 30 := ⟨_, rfl⟩
  obtain ⟨m', hm'⟩ : ∃ m, m = min l'.length 30 := ⟨_, rfl⟩
  have hmi : min (l.length : Int) 30 = (m : Int) := by omega
  have hmi' : min (l'.length : Int) 30 = (m' : Int) := by omega
  have hm0 : (0 : Int) ≤ (m : Int) := by omega
  have hm0' : (0 : Int) ≤ (m' : Int) := by omega
  have hmc : (m : Int) ≤ (c : Int) := by omega
  have hmc' : (m' : Int) ≤ (c' : Int) := by omega
  have hS1 := hS.cut m (by omega)
  have hS2 := hS'.cut m' (by omega)
  have hLm : (l.take m).length = m := by simp; omega
  have hLm' : (l'.take m').length = m' := by simp; omega
  rw [← take_minW l m 30 hm] at hk
  rw [← take_minW l' m' 30 hm'] at hk'
  generalize hL : l.take m = L at hS1 hLm hk
  generalize hL' : l'.take m' = L' at hS2 hLm' hk'
  have HS : Hid (SlA w (.slice p m c) L) := hS1
  have HS' : Hid (SlA w (.slice p' m' c') L') := hS2
  have HN : Hid (∀ k d, Value.slice p m c = .slice none k d → d = 0) := fun k d e => by
    injection e with e1 e2 e3
    subst e1; subst e3; exact hnil c rfl
  have HN' : Hid (∀ k d, Value.slice p' m' c' = .slice none k d → d = 0) := fun k d e => by
    injection e with e1 e2 e3
    subst e1; subst e3; exact hnil' c' rfl
  have e1 : lnV L = flat L ∧ lnE L = 0 := by unfold lnV lnE; rw [hk]; exact ⟨rfl, rfl⟩
  have e2 : lnV L' = flat L' ∧ lnE L' = 0 := by unfold lnV lnE; rw [hk']; exact ⟨rfl, rfl⟩
  have hkx : ∀ x ∈ L, x.ok = true := fun x hx => List.all_eq_true.1 hk x hx
  have hkx' : ∀ x ∈ L', x.ok = true := fun x hx => List.all_eq_true.1 hk' x hx
  have hfl := flat_len L hkx
  have hfl' := flat_len L' hkx'
  have hm30 : m ≤ 30 := by omega
  have hm30' : m' ≤ 30 := by omega
  have HL := hideA (lines_any (.slice p m c) L (by omega))
  have HL' := hideA (lines_any (.slice p' m' c') L' (by omega))
  rw [e1.1, e1.2] at HL
  rw [e2.1, e2.2] at HL'
  have HR := hideA (rd_someE (l := flat L ++ flat L') (m := L ++ L') (by
    have h2 := rd_flat L' [] hkx'
    rw [rd_nil, List.append_nil] at h2
    rw [rd_flat L _ hkx, h2]; simp))
  obtain ⟨B, hB⟩ : ∃ B, B = flat L ++ flat L' := ⟨_, rfl⟩
  rw [← hB] at HR
  have hc1 := cat_to (flat L) (flat L') B hB (by omega)
  have hBl : B.length ≤ 100000 := by rw [hB]; simp only [List.length_append]; omega
  generalize flat L = F at HL hc1 hfl
  generalize flat L' = F' at HL' hc1 hfl'
  clear hG hS hS' hS1 hS2 hm hm' hc hc' hL hL' e1 e2 hk hk' hkx hkx' hB hnil hnil'
  go_enter Tryd.func7, Tryd.ntmps7
  go_wp2_with fail
  refine (HL.out w HS.out HG.out).mono ?_
  rintro e w1 ⟨rfl, hb1⟩
  go_wp2_with fail
  refine (HL'.out w1 (HS'.out.below hb1) (HG.out.grow hb1)).mono ?_
  rintro e w2 ⟨rfl, hb2⟩
  have hb02 := hb1.trans (hb2.mono hb1.size)
  clear hb1 hb2
  go_wp2_with fail
  refine (read_any ⟨B.toArray⟩ (by show B.length ≤ _; omega) _ (HG.out.grow hb02)).mono ?_
  rintro e w3 ⟨v, he, ho, hb3⟩
  rw [show (⟨B.toArray⟩ : ByteArray).data.toList = B from rfl, HR.out.2] at he
  rw [show (⟨B.toArray⟩ : ByteArray).data.toList = B from rfl, HR.out.1] at ho
  subst he
  have hb03 := hb02.trans (hb3.mono hb02.size)
  have HV := hideA (SlA.of_owns ho)
  clear hb3 hb02 ho
  have hE : (w3.alloc (.cells #[] 23)).ownsRow w3.heap.size 23 5 (.slice (some ⟨w3.heap.size, 0, none⟩) 0 0) 0 [] := ⟨rfl, .inr ⟨w3.heap.size, 0, #[], rfl, Nat.le_refl _, heap_alloc_new _ _, Nat.le_refl _, Nat.zero_le _, rfl, rfl⟩⟩
  have hbE : Below w3.heap.size w3 (w3.alloc (.cells #[] 23)) := (Below.refl _ _).alloc (Nat.le_refl _) _
  have hSE := (HS.out.below hb03).below hbE
  go_wp2_with (first
    | (at_builtin; refine wpList_append_ins rfl _ _ rfl w3.heap.size (.slice (some ⟨w3.heap.size, 0, none⟩) 0 0) 0 [] rfl hE (.slice p m c) L rfl hSE HN.out (by omega) hbE.size ?_; intro v1 w4 ho4 hg4; have hb4 : Below w3.heap.size w3 w4 := hbE.grown hg4 hbE.size (fun k e => by simp [Value.ownBlock] at e; omega); have hS4 := (HS'.out.below hb03).below hb4)
    | (at_builtin; refine wpList_append_ins rfl _ _ rfl w3.heap.size v1 (0 + L.length) ([] ++ csOf L) rfl ho4 (.slice p' m' c') L' rfl hS4 HN'.out (by omega) hb4.size ?_; intro v2 w5 ho5 hg5; have hb5 : Below w3.heap.size w3 w5 := hb4.grown hg5 hb4.size (fun k e => (ho4.lt k e).1)))
  have hS5 : SlA w5 v2 (L ++ L') := SlA.of_owns (B := w3.heap.size) (by
    rw [csOf_app, List.length_append]
    rw [List.nil_append, Nat.zero_add] at ho5
    exact ho5)
  refine (same_any v v2 (L ++ L') (L ++ L') _ (HV.out.below hb5) hS5 (by rw [List.length_append]; omega)).mono ?_
  rintro e w6 ⟨he, hb6⟩
  rw [decide_eq_true rfl] at he
  subst he
  have hb06 := (hb03.trans (hb5.mono hb03.size)).trans (hb6.mono (hb03.trans (hb5.mono hb03.size)).size)
  clear hS5 hb6 hb5 hb4 hS4 hSE hbE hE ho4 ho5 hg4 hg5
  go_wp2_with (go_at_call 11; refine (fixed5_any _ (HG.out.grow hb06)).mono ?_; rintro e w7 ⟨rfl, hb7⟩)
  go_ret
  exact ⟨rfl, hb06.trans (hb7.mono hb06.size)⟩

set_option maxHeartbeats 8000000 in
set_option maxRecDepth 100000 in
theorem asmWhole_bad (p : Option Addr) (c : Nat) (l : List Ins) (p' : Option Addr) (c' : Nat) (l' : List Ins) (w : World) (hG : Gl w) (hS : SlA w (.slice p l.length c) l) (hc : l.length ≤ c) (hS' : SlA w (.slice p' l'.length c') l') (hc' : l'.length ≤ c')
    (hk : ¬ ((l.take 30).all (·.ok) = true ∧ (l'.take 30).all (·.ok) = true)) :
    Calls Tryd.prog 7 #[.slice p l.length c, .slice p' l'.length c'] w fun e w' => e = .returned (.bool true) ∧ Below w.heap.size w w' := by
  have HG : Hid (Gl w) := hG
  obtain ⟨m, hm⟩ : ∃ m, m = min l.length 30 := ⟨_, rfl⟩
  obtain ⟨m', hm'⟩ : ∃ m, m = min l'.length 30 := ⟨_, rfl⟩
  have hmi : min (l.length : Int) 30 = (m : Int) := by omega
  have hmi' : min (l'.length : Int) 30 = (m' : Int) := by omega
  have hm0 : (0 : Int) ≤ (m : Int) := by omega
  have hm0' : (0 : Int) ≤ (m' : Int) := by omega
  have hmc : (m : Int) ≤ (c : Int) := by omega
  have hmc' : (m' : Int) ≤ (c' : Int) := by omega
  have hS1 := hS.cut m (by omega)
  have hS2 := hS'.cut m' (by omega)
  have hLm : (l.take m).length = m := by simp; omega
  have hLm' : (l'.take m').length = m' := by simp; omega
  rw [← take_minW l m 30 hm, ← take_minW l' m' 30 hm'] at hk
  generalize hL : l.take m = L at hS1 hLm hk
  generalize hL' : l'.take m' = L' at hS2 hLm' hk
  have HS : Hid (SlA w (.slice p m c) L) := hS1
  have HS' : Hid (SlA w (.slice p' m' c') L') := hS2
  have hm30 : m ≤ 30 := by omega
  have hm30' : m' ≤ 30 := by omega
  have HL := hideA (lines_any (.slice p m c) L (by omega))
  have HL' := hideA (lines_any (.slice p' m' c') L' (by omega))
  have he : (lnV L = [] ∧ lnE L = 20) ∨ (lnE L = 0 ∧ lnE L' = 20) := by
    unfold lnV lnE
    cases h1 : L.all (·.ok)
    · exact .inl ⟨rfl, rfl⟩
    · cases h2 : L'.all (·.ok)
      · exact .inr ⟨rfl, rfl⟩
      · exact absurd ⟨h1, h2⟩ hk
  clear hG hS hS' hS1 hS2 hm hm' hc hc' hL hL' hk
  rcases he with ⟨e1, e2⟩ | ⟨e1, e2⟩
  · rw [e1, e2] at HL
    generalize lnE L' = x2 at HL'
    clear e1 e2
    go_enter Tryd.func7, Tryd.ntmps7
    go_wp2_with fail
    refine (HL.out w HS.out HG.out).mono ?_
    rintro e w1 ⟨rfl, hb1⟩
    go_wp2_with fail
    refine (HL'.out w1 (HS'.out.below hb1) (HG.out.grow hb1)).mono ?_
    rintro e w2 ⟨rfl, hb2⟩
    have hb02 := hb1.trans (hb2.mono hb1.size)
    clear hb1 hb2
    go_wp2_with (go_at_call 11; refine (fixed5_any _ (HG.out.grow hb02)).mono ?_; rintro e w7 ⟨rfl, hb7⟩)
    go_ret
    exact ⟨rfl, hb02.trans (hb7.mono hb02.size)⟩
  · rw [e1] at HL
    rw [e2] at HL'
    clear e1 e2
    go_enter Tryd.func7, Tryd.ntmps7
    go_wp2_with fail
    refine (HL.out w HS.out HG.out).mono ?_
    rintro e w1 ⟨rfl, hb1⟩
    go_wp2_with fail
    refine (HL'.out w1 (HS'.out.below hb1) (HG.out.grow hb1)).mono ?_
    rintro e w2 ⟨rfl, hb2⟩
    have hb02 := hb1.trans (hb2.mono hb1.size)
    clear hb1 hb2
    go_wp2_with (go_at_call 11; refine (fixed5_any _ (HG.out.grow hb02)).mono ?_; rintro e w7 ⟨rfl, hb7⟩)
    go_ret
    exact ⟨rfl, hb02.trans (hb7.mono hb02.size)⟩
theorem asmWhole_walk (p : Option Addr) (c : Nat) (l : List Ins) (p' : Option Addr) (c' : Nat) (l' : List Ins) (w : World) (hG : Gl w) (hS : SlA w (.slice p l.length c) l) (hc : l.length ≤ c) (_ : c ≤ 9223372036854775807) (hnil : ∀ d, Value.slice p l.length c = .slice none l.length d → d = 0) (hS' : SlA w (.slice p' l'.length c') l') (hc' : l'.length ≤ c') (_ : c' ≤ 9223372036854775807) (hnil' : ∀ d, Value.slice p' l'.length c' = .slice none l'.length d → d = 0) :
    Calls Tryd.prog 7 #[.slice p l.length c, .slice p' l'.length c'] w fun e w' => e = .returned (.bool true) ∧ Below w.heap.size w w' := by
  by_cases hk : (l.take 30).all (·.ok) = true ∧ (l'.take 30).all (·.ok) = true
  · exact asmWhole_good p c l p' c' l' w hG hS hc hnil hS' hc' hnil' hk.1 hk.2
  · exact asmWhole_bad p c l p' c' l' w hG hS hc hS' hc' hk
end Go.Proofs.YtdjladaefoedfaaDoor
namespace Go.Proofs.YtdjladaefoedfaaDoor.asmWhole
open Go.ChangeShapes Go.WideShapes Go.ChangeAt Go.RowKit Ip As
open Go.ChangeMaps (open_string shut_string)
set_option linter.unusedVariables false

theorem own : ownKnob Tryd.prog.godebug = none := by kernel_rfl

set_option maxRecDepth 100000 in
theorem lifted (os : Os) (started : os.Started) (H : Type) (enc : TypeId × Value → H) :
    ReturnsInHanded {} Tryd.checked os 7 .any (fun w args => (Rows.asmWholeSpec.pre enc Tryd.prog Tryd.f7 [] false w args ∧ laidMetH Tryd.prog laid5 w) ∧ sizedMet enc Tryd.prog Tryd.f7 (OpenSpec.ofChange Rows.asmWholeSpec) false w args)
      (Rows.asmWholeSpec.post enc Tryd.prog Tryd.f7 false true false false) := by
  refine returnsInHanded_of_change_and (C := Tryd.checked) (X := fun w _ => laidMetH Tryd.prog laid5 w) (fun _ _ _ hh h => h.of_heap hh) own started (by kernel_rfl) Tryd.func7
    (ChangeSpec.witness_shaped (enc := enc) (C := Tryd.checked) (os := os) (X := fun w _ => laidMetH Tryd.prog laid5 w) false (World.doorLaid Tryd.prog 400 os) #[.slice none 0 0, .slice none 0 0] 8 rfl (World.shaped_of_RefB (by kernel_rfl) (by kernel_rfl)) (by kernel_rfl) (by kernel_rfl) (by kernel_rfl) (door_met os _)) ?_
  intro W base args ds gs before hval0 hW _ hsz0 hL _
  have hG := gl_of_laid hL
  have hval : ∀ (j : Nat) t v, Tryd.f7.params[j]? = some t → args[j]? = some v → Value.okWide Tryd.prog W .any base t v := hval0
  have hW' := hW
  obtain ⟨p, q, hA0, hV, rfl, hfz, hnd⟩ := hW
  have hA : DataW.TrodAll enc Tryd.prog W 0 (fun _ => true) true Tryd.f7.params.toList args.toList ds p := hA0
  rw [Tryd.params7] at hA hval
  obtain ⟨v0, vs0, d0, ds0, p0, q0, hargs, rfl, rfl, h0, r0⟩ := trodAll_cons hA
  obtain ⟨v1, vs1, d1, ds1, p1, q1, rfl, rfl, rfl, h1, r1⟩ := trodAll_cons r0
  obtain ⟨rfl, rfl, rfl⟩ := trodAll_nil r1
  obtain rfl : args = #[v0, v1] := by cases args; simp_all
  obtain ⟨rfl, rfl⟩ := trodVars_none hV
  have hlt : ∀ x ∈ p0 ++ p1, x.block < W.heap.size := fun x hx => by simpa using hW'.lt x (by simpa using hx)
  have k0 := h0
  have l0 : ∀ x ∈ p0, x.block < W.heap.size := fun x hx => hlt x (by simp [hx])
  have k1 := h1
  have l1 : ∀ x ∈ p1, x.block < W.heap.size := fun x hx => hlt x (by simp [hx])
  have nil0 := insts_nil h0
  obtain ⟨pi0, ci0, li0, rfl, hsl0, hcp0, hln0⟩ := open_insts (hval 0 34 v0 rfl rfl) h0
  have nil1 := insts_nil h1
  obtain ⟨pi1, ci1, li1, rfl, hsl1, hcp1, hln1⟩ := open_insts (hval 1 34 v1 rfl rfl) h1
  clear hA0 hval0
  refine (asmWhole_walk pi0 ci0 li0 pi1 ci1 li1 W hG hsl0 hcp0 hln0 (nil0 _) hsl1 hcp1 hln1 (nil1 _)).mono fun e W' ⟨he, hg⟩ => ?_
  subst he
  exact ⟨_, rfl, _, _, _, [], _, [], hW', trodAll_mk1 (shut_bool Tryd.underlying4 _), (trodAll_cons_mk (Below.trod laidOut5 (by kernel_rfl) (of_decide_eq_true (by kernel_rfl)) k0 hg l0) (trodAll_cons_mk (Below.trod laidOut5 (by kernel_rfl) (of_decide_eq_true (by kernel_rfl)) k1 hg l1) trodAll_mk0)), rfl, hg.frame _, fun h => by cases h⟩

theorem over : Rows.asmWholeRow.holds Tryd.pinned (OpenSpec.ofChange Rows.asmWholeSpec) :=
  OpenClaim.holds_of_wide 7 Tryd.f7 rfl rfl rfl rfl rfl rfl rfl ⟨rfl, rfl, rfl, rfl, rfl⟩ rfl rfl rfl rfl rfl (by kernel_rfl) Tryd.func7 (by kernel_rfl)
    (of_decide_eq_true (by kernel_rfl)) (by unfold Func.isWrapper; first | (rw [if_pos (by decide +kernel)]; kernel_rfl) | (rw [if_neg (by decide +kernel)]; exact ⟨rfl, rfl⟩))
    (fun os started H enc _ => lifted os started H enc)

theorem proved : Rows.AsmWholeCardSaid :=
  Claim7.holds_tied_plain_at .later [] [.data, .data, .data, .sentinel, .sentinel, .data] true Rows.asmWholeCard.stood.harness true
    over (fun _ h => by cases h) (by kernel_rfl) (fun _ h => by cases h) asmWhole_row_tie rfl ⟨rfl, rfl⟩ (by kernel_rfl) rfl
    (fun f fn hf hfn => by
      obtain rfl : f = 7 := Option.some.inj ((show Tryd.prog.funcNamed "whetstone/whetstonelaw05.AsmWhole" = some 7 by kernel_rfl).symm.trans hf) |>.symm
      obtain rfl : fn = Tryd.f7 := (Option.some.inj (Tryd.func7.symm.trans hfn)).symm
      exact ⟨by kernel_rfl, fun j t ht => by
        rw [Tryd.params7] at ht
        have hm : t ∈ [34, 34] := by simpa using Array.mem_of_getElem? ht
        have hall : ([34, 34].all fun u => !Tryd.prog.wantsStandIn u) = true := by kernel_rfl
        exact (show Tryd.prog.wantsStandIn t = false by simpa using List.all_eq_true.1 hall t hm)⟩)
    (by kernel_rfl)
#print axioms proved
end Go.Proofs.YtdjladaefoedfaaDoor.asmWhole
