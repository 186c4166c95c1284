/-
  AsmNames (P5.1): each kind has a name of small letters, by which it is found; no two have one; for every input. What the listed package variables hold is tied to the program by the card.
  The walk of AsmNames.
-/
import Derived.Test.YtdjladaefoedfaaDoorRows
import Derived.Test.YtdjladaefoedfaaDoorTie
import Derived.Test.YtdjladaefoedfaaDoorCards
import Derived.WalkKit
import Derived.ProofKit
import Derived.OpenShut
import Derived.Carry
import Derived.ChangeMaps
import Derived.SevenTiedAt
import Derived.Test.YtdjladaefoedfaaDoorZA5
import Derived.Test.YtdjladaefoedfaaDoorZA6
namespace Go.Proofs.YtdjladaefoedfaaDoor
open Go.RowKit Ip As Go.Lib

theorem nm_inj (k : Nat) (hk : k < 47) (b : Int) (h : nm k = name b) : b = k := by
  unfold name at h
  split at h
  · by_cases hb : b < 47
    · have := byV_nm k hk; rw [h, byV_nm _ (by omega)] at this; omega
    · rw [nm_big b.toNat (by omega)] at h; exact absurd h (nm_some k hk)
  · exact absurd h (nm_some k hk)

set_option maxHeartbeats 4000000 in
set_option maxRecDepth 100000 in
theorem asmNames_no (a b : Int) (ha : ¬ (0 ≤ a ∧ a < 47)) (w : World) (hG : Gl w) : Calls Tryd.prog 8 #[.int .i64 a, .int .i64 b] w fun e w' => e = .returned (.bool true) ∧ Below w.heap.size w w' := by
  have HG : Hid (Gl w) := hG
  have e : name a = [] := by
    unfold name; split
    · rw [nm_big _ (by omega)]
    · rfl
  clear hG
  by_cases h0 : 0 ≤ a
  · have h1 : ¬ a < 47 := by omega
    clear ha
    go_enter Tryd.func8, Tryd.ntmps8
    go_wp2_with (go_at_call 12; refine (name_any _ _ HG.out).mono ?_; rintro e w1 ⟨rfl, hw⟩; rw [hw]; clear hw w1)
    go_loopw [8] (fun i wr => i = .int .i64 0 ∧ wr = w) (fun _ _ => 0)
    case atStart => exact ⟨rfl, rfl⟩
    case round =>
      obtain ⟨rfl, hw⟩ := hrel
      rw [hw]
      clear hw
      go_wp2_with (go_at_call 11; refine (fixed5_any _ HG.out).mono ?_; rintro e w1 ⟨rfl, hb⟩)
      go_ret
      exact ⟨rfl, hb⟩
  · clear ha
    go_enter Tryd.func8, Tryd.ntmps8
    go_wp2_with (go_at_call 12; refine (name_any _ _ HG.out).mono ?_; rintro e w1 ⟨rfl, hw⟩; rw [hw]; clear hw w1)
    go_loopw [8] (fun i wr => i = .int .i64 0 ∧ wr = w) (fun _ _ => 0)
    case atStart => exact ⟨rfl, rfl⟩
    case round =>
      obtain ⟨rfl, hw⟩ := hrel
      rw [hw]
      clear hw
      go_wp2_with (go_at_call 11; refine (fixed5_any _ HG.out).mono ?_; rintro e w1 ⟨rfl, hb⟩)
      go_ret
      exact ⟨rfl, hb⟩

set_option maxHeartbeats 4000000 in
set_option maxRecDepth 100000 in
theorem asmNames_is (k : Nat) (hk : k < 47) (b : Int) (w : World) (hG : Gl w) : Calls Tryd.prog 8 #[.int .i64 (k : Int), .int .i64 b] w fun e w' => e = .returned (.bool true) ∧ Below w.heap.size w w' := by
  have HG : Hid (Gl w) := hG
  have e : name (k : Int) = nm k := by unfold name; rw [if_pos (by omega), Int.toNat_natCast]
  have hne := nm_some k hk
  have hsm := nm_small k
  have hby := byV_nm k hk
  have heq : (nm k == name b) = ((k : Int) == b) := by
    by_cases hb : b = (k : Int)
    · subst hb; rw [e]; simp
    · rw [show ((k : Int) == b) = false from beq_eq_false_iff_ne.2 (fun e => hb e.symm), show (nm k == name b) = false from beq_eq_false_iff_ne.2 (fun h => hb (nm_inj k hk b h))]
  have hl := nm_length k
  have hz0 : ((0 : Int) ≤ (k : Int)) := by omega
  have hz1 : ((k : Int) < 47) := by omega
  obtain ⟨N, hN⟩ : ∃ N, N = nm k := ⟨_, rfl⟩
  rw [← hN] at e hne hsm hby heq hl
  have HS : Hid (∀ b ∈ N, 97 ≤ b.toNat ∧ b.toNat ≤ 122) := hsm
  clear hG hN hsm
  have hem : N.isEmpty = false := by cases N with
    | nil => exact absurd rfl hne
    | cons _ _ => rfl
  go_enter Tryd.func8, Tryd.ntmps8
  go_wp2_with (go_at_call 12; refine (name_any _ _ HG.out).mono ?_; rintro e w1 ⟨rfl, hw⟩; rw [hw]; clear hw w1)
  go_loopg [8] N.length (fun q i wr => ∃ j : Nat, j + q = N.length ∧ i = .int .i64 (j : Int) ∧ wr = w)
  case atStart => exact ⟨0, by omega, rfl, rfl⟩
  case round =>
    obtain ⟨j, hjq, rfl, hw⟩ := hrel
    rw [hw]
    clear hw
    cases gk with
    | zero =>
      have hj : ¬ ((j : Int) < (N.length : Int)) := by omega
      go_wp2_with (first
        | (go_at_call 14; refine (by_any _ _ HG.out).mono ?_; rintro e w1 ⟨rfl, hw⟩; rw [hw]; clear hw w1; rw [show (⟨N.toArray⟩ : ByteArray).data.toList = N from rfl, hby])
        | (go_at_call 11; refine (fixed5_any _ HG.out).mono ?_; rintro e w1 ⟨rfl, hb⟩))
      go_ret
      exact ⟨rfl, hb⟩
    | succ q =>
      have hj : ((j : Int) < (N.length : Int)) := by omega
      obtain ⟨x, hx⟩ : ∃ x, N[j]? = some x := ⟨N[j]'(by omega), List.getElem?_eq_getElem (by omega)⟩
      have hix := idx_at N j (j : Int) x rfl hx
      have hxs := HS.out x (List.mem_of_getElem? hx)
      have h97 : ¬ ((x.toNat : Int) < 97) := by omega
      have h122 : ¬ ((122 : Int) < (x.toNat : Int)) := by omega
      have hwj : IntKind.i64.wrap ((j : Int) + 1) = (j : Int) + 1 := wr64 (by omega) (by omega)
      clear hxs hx
      go_wp2_with fail
      go_roundg q
      case measure => omega
      case rel => exact ⟨j + 1, by omega, by simp, rfl⟩
theorem asmNames_walk (a b : Int) (w : World) (hG : Gl w) : Calls Tryd.prog 8 #[.int .i64 a, .int .i64 b] w fun e w' => e = .returned (.bool true) ∧ Below w.heap.size w w' := by
  by_cases h : 0 ≤ a ∧ a < 47
  · obtain ⟨k, rfl⟩ := Int.eq_ofNat_of_zero_le h.1
    exact asmNames_is k (by omega) b w hG
  · exact asmNames_no a b h w hG
end Go.Proofs.YtdjladaefoedfaaDoor
namespace Go.Proofs.YtdjladaefoedfaaDoor.asmNames
open Go.ChangeShapes Go.WideShapes Go.ChangeAt Go.RowKit Ip As
open Go.ChangeMaps (open_string shut_string)
set_option linter.unusedVariables false

theorem own : ownKnob Tryd.prog.godebug = none := by kernel_rfl

set_option maxRecDepth 100000 in
theorem lifted (os : Os) (started : os.Started) (H : Type) (enc : TypeId × Value → H) :
    ReturnsInHanded {} Tryd.checked os 8 .any (fun w args => (Rows.asmNamesSpec.pre enc Tryd.prog Tryd.f8 [] false w args ∧ laidMetH Tryd.prog laid5 w) ∧ sizedMet enc Tryd.prog Tryd.f8 (OpenSpec.ofChange Rows.asmNamesSpec) false w args)
      (Rows.asmNamesSpec.post enc Tryd.prog Tryd.f8 false true false false) := by
  refine returnsInHanded_of_change_and (C := Tryd.checked) (X := fun w _ => laidMetH Tryd.prog laid5 w) (fun _ _ _ hh h => h.of_heap hh) own started (by kernel_rfl) Tryd.func8
    (ChangeSpec.witness_shaped (enc := enc) (C := Tryd.checked) (os := os) (X := fun w _ => laidMetH Tryd.prog laid5 w) false (World.doorLaid Tryd.prog 400 os) #[.int .i64 0, .int .i64 0] 8 rfl (World.shaped_of_RefB (by kernel_rfl) (by kernel_rfl)) (by kernel_rfl) (by kernel_rfl) (by kernel_rfl) (door_met os _)) ?_
  intro W base args ds gs before hval0 hW _ hsz0 hL _
  have hG := gl_of_laid hL
  have hval : ∀ (j : Nat) t v, Tryd.f8.params[j]? = some t → args[j]? = some v → Value.okWide Tryd.prog W .any base t v := hval0
  have hW' := hW
  obtain ⟨p, q, hA0, hV, rfl, hfz, hnd⟩ := hW
  have hA : DataW.TrodAll enc Tryd.prog W 0 (fun _ => true) true Tryd.f8.params.toList args.toList ds p := hA0
  rw [Tryd.params8] at hA hval
  obtain ⟨v0, vs0, d0, ds0, p0, q0, hargs, rfl, rfl, h0, r0⟩ := trodAll_cons hA
  obtain ⟨v1, vs1, d1, ds1, p1, q1, rfl, rfl, rfl, h1, r1⟩ := trodAll_cons r0
  obtain ⟨rfl, rfl, rfl⟩ := trodAll_nil r1
  obtain rfl : args = #[v0, v1] := by cases args; simp_all
  obtain ⟨rfl, rfl⟩ := trodVars_none hV
  have hlt : ∀ x ∈ p0 ++ p1, x.block < W.heap.size := fun x hx => by simpa using hW'.lt x (by simpa using hx)
  have k0 := h0
  have l0 : ∀ x ∈ p0, x.block < W.heap.size := fun x hx => hlt x (by simp [hx])
  have k1 := h1
  have l1 : ∀ x ∈ p1, x.block < W.heap.size := fun x hx => hlt x (by simp [hx])
  obtain ⟨a0, rfl, rfl, rfl, w0⟩ := open_int Tryd.underlying3 (hval 0 3 v0 rfl rfl) h0
  obtain ⟨a1, rfl, rfl, rfl, w1⟩ := open_int Tryd.underlying3 (hval 1 3 v1 rfl rfl) h1
  clear hA0 hval0
  refine (asmNames_walk a0 a1 W hG).mono fun e W' ⟨he, hg⟩ => ?_
  subst he
  exact ⟨_, rfl, _, _, _, [], _, [], hW', trodAll_mk1 (shut_bool Tryd.underlying4 _), (trodAll_cons_mk (Below.trod laidOut5 (by kernel_rfl) (of_decide_eq_true (by kernel_rfl)) k0 hg l0) (trodAll_cons_mk (Below.trod laidOut5 (by kernel_rfl) (of_decide_eq_true (by kernel_rfl)) k1 hg l1) trodAll_mk0)), rfl, hg.frame _, fun h => by cases h⟩

theorem over : Rows.asmNamesRow.holds Tryd.pinned (OpenSpec.ofChange Rows.asmNamesSpec) :=
  OpenClaim.holds_of_wide 8 Tryd.f8 rfl rfl rfl rfl rfl rfl rfl ⟨rfl, rfl, rfl, rfl, rfl⟩ rfl rfl rfl rfl rfl (by kernel_rfl) Tryd.func8 (by kernel_rfl)
    (of_decide_eq_true (by kernel_rfl)) (by unfold Func.isWrapper; first | (rw [if_pos (by decide +kernel)]; kernel_rfl) | (rw [if_neg (by decide +kernel)]; exact ⟨rfl, rfl⟩))
    (fun os started H enc _ => lifted os started H enc)

theorem proved : Rows.AsmNamesCardSaid :=
  Claim7.holds_tied_plain_at .later [] [.data, .data, .data, .sentinel, .sentinel, .data] true Rows.asmNamesCard.stood.harness true
    over (fun _ h => by cases h) (by kernel_rfl) (fun _ h => by cases h) asmNames_row_tie rfl ⟨rfl, rfl⟩ (by kernel_rfl) rfl
    (fun f fn hf hfn => by
      obtain rfl : f = 8 := Option.some.inj ((show Tryd.prog.funcNamed "whetstone/whetstonelaw05.AsmNames" = some 8 by kernel_rfl).symm.trans hf) |>.symm
      obtain rfl : fn = Tryd.f8 := (Option.some.inj (Tryd.func8.symm.trans hfn)).symm
      exact ⟨by kernel_rfl, fun j t ht => by
        rw [Tryd.params8] at ht
        have hm : t ∈ [3, 3] := by simpa using Array.mem_of_getElem? ht
        have hall : ([3, 3].all fun u => !Tryd.prog.wantsStandIn u) = true := by kernel_rfl
        exact (show Tryd.prog.wantsStandIn t = false by simpa using List.all_eq_true.1 hall t hm)⟩)
    (by kernel_rfl)
#print axioms proved
end Go.Proofs.YtdjladaefoedfaaDoor.asmNames
