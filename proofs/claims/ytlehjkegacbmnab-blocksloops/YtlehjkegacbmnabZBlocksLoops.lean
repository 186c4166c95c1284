/-
  BlocksLoops: for either of the two texts that are one branch (to itself, or to the next one) and an end, Find answers two blocks, and Next the blocks behind each.
  The walk of BlocksLoops.
  A text that is one branch to itself, or to the next one, and an end: its blocks, and which stand behind which.
-/
import Derived.Deep.QuietTactic
import Derived.BigQuiet
import Derived.Test.YtlehjkegacbmnabRows
import Derived.WalkKit
import Derived.ProofKit
import Derived.OpenShut
import Derived.Carry
import Derived.ChangeMaps
import Derived.Test.YtlehjkegacbmnabZC1
import Derived.Test.YtlehjkegacbmnabZD5
namespace Go.Proofs.Ytlehjkegacbmnab
open Go.RowKit Go.Lib Go.Sort Go.Maps Ip Bl Pm
set_option linter.unusedSimpArgs false
set_option linter.unusedVariables false

def codeB (b : Bool) : Nat := if b then 99 else 611
def WB (b : Bool) : List Nat := [codeB b, 1048691]
def iB (b : Bool) : Img := ⟨(BitVec.ofNat 32 4096), (BitVec.ofNat 32 4096), WB b, 0⟩
def BB : List (Nat × Nat) := [(4096, 1), (4100, 1)]
def wantB (b : Bool) : List Nat := if b then [0, 1] else [1]
theorem iB_ok (b : Bool) : (iB b).ok := by cases b <;> exact ⟨by decide, by decide, by decide, by decide⟩
def inB (b : Bool) : Ins := if b then ⟨4, 0, 0, 0, 0⟩ else ⟨4, 0, 0, 0, 4⟩
set_option maxRecDepth 100000 in
theorem iB_0 (b : Bool) : insA (iB b) 4096 = inB b := by cases b <;> kernel_rfl
set_option maxRecDepth 100000 in
theorem iB_1 (b : Bool) : insA (iB b) 4100 = ⟨46, 0, 0, 0, 0⟩ := by cases b <;> kernel_rfl
set_option maxRecDepth 100000 in
theorem eB_0 (b : Bool) : errA (iB b) 4096 = 0 := by cases b <;> kernel_rfl
set_option maxRecDepth 100000 in
theorem eB_1 (b : Bool) : errA (iB b) 4100 = 0 := by cases b <;> kernel_rfl
def sucB (b : Bool) : List Nat := if b then [4096, 4100] else [4100]
theorem aB_0 (b : Bool) : aftI (inB b) 4096 = sucB b := by cases b <;> decide
theorem sB_0 (b : Bool) : (txI (iB b)).suc 4096 = sucB b := by show aftI (insA (iB b) 4096) 4096 = _; rw [iB_0]; exact aB_0 b
theorem sB_1 (b : Bool) : (txI (iB b)).suc 4100 = [] := by show aftI (insA (iB b) 4100) 4100 = _; rw [iB_1]; decide
theorem nB_0 (b : Bool) : (txI (iB b)).ends 4096 = true := by show endsI (insA (iB b) 4096) = _; rw [iB_0]; cases b <;> decide
theorem rB_0 (b : Bool) : Bl.Reach (txI (iB b)) (seedsI (iB b) []) 4096 := reach_seed List.mem_cons_self
theorem mB_1 (b : Bool) : 4100 ∈ sucB b := by cases b <;> simp [sucB]
theorem rB_1 (b : Bool) : Bl.Reach (txI (iB b)) (seedsI (iB b) []) 4100 := reach_step (rB_0 b) (eB_0 b) (by rw [sB_0]; exact mB_1 b)
theorem cB (b : Bool) : Closed (txI (iB b)) (seedsI (iB b) []) [4096, 4100] := by
  refine ⟨fun a ha => ?_, fun c hc h0 a ha => ?_, fun a ha => ?_⟩
  · rcases List.mem_cons.1 ha with rfl | ha
    · show (4096 : Nat) ∈ _; simp
    · simp at ha
  · simp only [List.mem_cons, List.not_mem_nil, or_false] at hc
    rcases hc with rfl | rfl
    · rw [sB_0] at ha
      cases b <;> simp [sucB] at ha ⊢ <;> omega
    · rw [sB_1] at ha; simp at ha
  · simp only [List.mem_cons, List.not_mem_nil, or_false] at ha
    rcases ha with rfl | rfl
    · exact rB_0 b
    · exact rB_1 b
theorem lB (b : Bool) : errL (txI (iB b)).err [4096, 4100] = 0 := by
  show errL (errA (iB b)) [4096, 4100] = 0
  simp [errL, foldE, eB_0, eB_1]
theorem bB (b : Bool) : adrL (txI (iB b)) (blks (txI (iB b)) (seedsI (iB b) []) [4096, 4100] (txI (iB b)).n) = BB := by
  have a0 : (txI (iB b)).adr 0 = 4096 := rfl
  have a1 : (txI (iB b)).adr 1 = 4100 := rfl
  have d0 : begins (txI (iB b)) (seedsI (iB b) []) [4096, 4100] 0 = true := begins_zero
  have d1 : begins (txI (iB b)) (seedsI (iB b) []) [4096, 4100] 1 = true := by
    unfold begins; rw [a0, nB_0]; simp
  have hn : (txI (iB b)).n = 2 := rfl
  rw [hn]
  simp only [blks, a0, a1, d0, d1]
  simp [adrL, a0, a1, BB]
theorem ansB (b : Bool) : AnsF (txI (iB b)) (seedsI (iB b) []) 0 BB := ⟨_, cB b, (lB b).symm, by rw [if_pos rfl, bB]⟩
theorem findB_any (b : Bool) (v : Value) (w : World) (hS : SlW w v (WB b)) : Calls Try.prog 5 #[imgV (iB b) v, .slice none 0 0] w fun e W' => ∃ u, e = .returned (.tuple #[u, .int .i64 0]) ∧ W'.ownsRow w.heap.size 31 2 u 2 (cellsB BB) ∧ Below w.heap.size w W' := by
  refine (finds_any (iB b) v (.slice none 0 0) [] (fun a ha => by simp at ha) (by decide) (iB_ok b) w hS (slw_nil w)).mono ?_
  rintro e W' ⟨er, l, hans, u, rfl, hrow, hb⟩
  obtain ⟨rfl, rfl⟩ := hans.same (ansB b) (fun _ => Iff.rfl)
  exact ⟨u, rfl, hrow, hb⟩
theorem fitB : FitB BB := ⟨by unfold RiseB BB; simp, fun b hb => by simp [BB] at hb; rcases hb with rfl | rfl <;> decide, fun b hb => by simp [BB] at hb; rcases hb with rfl | rfl <;> decide, by decide⟩
theorem nxB_0 (b : Bool) : nextV (iB b) BB 0 = (wantB b, false) := by
  have hl : lastA (BB.getD (0 : Int).toNat (0, 0)) = 4096 := by decide
  unfold nextV
  rw [hl, iB_0, if_pos ⟨by decide, by decide, eB_0 b⟩, aB_0]
  cases b <;> decide
theorem nxB_1 (b : Bool) : nextV (iB b) BB 1 = ([], false) := by
  have hl : lastA (BB.getD (1 : Int).toNat (0, 0)) = 4100 := by decide
  unfold nextV
  rw [hl, iB_1, if_pos ⟨by decide, by decide, eB_1 b⟩]
  have ha : aftI ⟨46, 0, 0, 0, 0⟩ 4100 = [] := by decide
  rw [ha]
  decide
theorem nextB_0 (b : Bool) (v vl : Value) (w : World) (hS : SlW w v (WB b)) (hB : SlB w vl BB) : Calls Try.prog 7 #[imgV (iB b) v, vl, .int .i64 0] w fun e W' => ∃ u, e = .returned (.tuple #[u, .bool false]) ∧ SlI8 W' u (wantB b) ∧ Below w.heap.size w W' := by
  refine (next_any (iB b) v vl BB 0 (by decide) (by decide) fitB (iB_ok b) w hS hB).mono ?_
  rw [nxB_0]
  rintro e W' ⟨u, rfl, hrow, hb⟩
  exact ⟨u, rfl, sli_of_owns hrow, hb⟩
theorem nextB_1 (b : Bool) (v vl : Value) (w : World) (hS : SlW w v (WB b)) (hB : SlB w vl BB) : Calls Try.prog 7 #[imgV (iB b) v, vl, .int .i64 1] w fun e W' => ∃ u, e = .returned (.tuple #[u, .bool false]) ∧ SlI8 W' u [] ∧ Below w.heap.size w W' := by
  refine (next_any (iB b) v vl BB 1 (by decide) (by decide) fitB (iB_ok b) w hS hB).mono ?_
  rw [nxB_1]
  rintro e W' ⟨u, rfl, hrow, hb⟩
  exact ⟨u, rfl, sli_of_owns hrow, hb⟩
end Go.Proofs.Ytlehjkegacbmnab
namespace Go.Proofs.Ytlehjkegacbmnab
open Go.RowKit Go.Lib Go.Sort Go.Maps Ip Bl Pm
set_option linter.unusedSimpArgs false
set_option linter.unusedVariables false

/-- While the law is at work: its image's box, and the numbers that it wants. -/
structure Lp (w : World) (b : Bool) (gx : Nat) (v vw : Value) (W : World) : Prop where
  ib : W.heap[gx]? = some (.cells (imgC (iB b) v) 25 (0, 0))
  lw : SlW W v (WB b)
  wi : SlI8 W vw (wantB b)
  low : Below w.heap.size w W
theorem Lp.below {w W W' : World} {b : Bool} {gx : Nat} {v vw : Value} (h : Lp w b gx v vw W) (hb : Below W.heap.size W W') : Lp w b gx v vw W' := ⟨keptN hb h.ib, h.lw.below hb, h.wi.below hb, h.low.trans (hb.mono h.low.size)⟩
theorem Lp.new {w W : World} {b : Bool} {vw : Value} (hlow : Below w.heap.size w W) (hwi : SlI8 W vw (wantB b)) (c0 : Value) (hc : c0 = .int .u32 (codeB b : Int)) (cs : Array Value)
    (hbx : ((W.alloc (.cells #[c0, .int .u32 1048691] 22)).alloc (.cells cs 25)).heap[W.heap.size + 1]? = some (.cells cs 25 (0, 0))) :
    Lp w b (W.heap.size + 1) (.slice (some ⟨W.heap.size, 0, none⟩) 2 2) vw (((W.alloc (.cells #[c0, .int .u32 1048691] 22)).alloc (.cells cs 25)).setRow (W.heap.size + 1) (imgC (iB b) (.slice (some ⟨W.heap.size, 0, none⟩) 2 2))) := by
  subst hc
  have b0 : Below W.heap.size W (W.alloc (.cells #[.int .u32 (codeB b : Int), .int .u32 1048691] 22)) := (Below.refl _ W).alloc (Nat.le_refl _) _
  have hs := slw_lit W #[.int .u32 (codeB b : Int), .int .u32 1048691] (WB b) rfl
  have b1 : Below (W.heap.size + 1) (W.alloc (.cells #[.int .u32 (codeB b : Int), .int .u32 1048691] 22)) (((W.alloc (.cells #[.int .u32 (codeB b : Int), .int .u32 1048691] 22)).alloc (.cells cs 25)).setRow (W.heap.size + 1) (imgC (iB b) (.slice (some ⟨W.heap.size, 0, none⟩) 2 2))) :=
    below_setRowE ((Below.refl _ _).alloc (by simp) _) (Nat.le_refl _) _
  have b2 := b0.trans (b1.mono (Nat.le_succ _))
  exact ⟨setRow_heap _ _ _ _ _ _ hbx, hs.below (by rw [World.size_alloc]; exact b1), hwi.below b2, hlow.trans (b2.mono hlow.size)⟩
set_option maxHeartbeats 4000000 in
set_option maxRecDepth 100000 in
theorem blocksLoops_walk (b : Bool) (w : World) : Calls Try.prog 4 #[.bool b] w fun e w' => e = .returned (.bool true) ∧ Below w.heap.size w w' := by
  cases b with
  | false =>
    have hs0 := (show SlI8 (w.alloc (.cells #[.int .i64 1] 3)) (.slice (some ⟨w.heap.size, 0, none⟩) 1 1) (wantB false) from sli_lit w #[.int .i64 1] [1] rfl)
    go_enter Try.func4, Try.ntmps4
    go_upto_region 6 with fail
    refine gen_world (fun W => Below w.heap.size w W ∧ SlI8 W (.slice (some ⟨w.heap.size, 0, none⟩) 1 1) (wantB false)) ⟨(Below.refl _ w).alloc (Nat.le_refl _) _, hs0⟩ ?_
    clear hs0
    rintro W0 ⟨hlo, hwi⟩
    have hbx := heap_alloc_new (W0.alloc (.cells #[.int .u32 611, .int .u32 1048691] 22)) (.cells #[.int .u32 0, .int .u32 0, .slice none 0 0, .int .i64 0] 25)
    rw [World.size_alloc] at hbx
    have HLP := hideE (Lp.new (b := false) hlo hwi (.int .u32 611) rfl _ hbx)
    clear hlo hwi
    go_upto_region 7 with (refine wpList_store_row rfl 25 _ _ rfl (W0.heap.size + 1) _ rfl rfl _ _ hbx (by kernel_rfl) rfl (by kernel_rfl) ?_)
    refine gen_world (Lp w false (W0.heap.size + 1) (.slice (some ⟨W0.heap.size, 0, none⟩) 2 2) (.slice (some ⟨w.heap.size, 0, none⟩) 1 1)) HLP.out ?_
    clear HLP hbx
    obtain ⟨gx, hgx⟩ : ∃ g, W0.heap.size + 1 = g := ⟨_, rfl⟩
    obtain ⟨gw, hgw⟩ : ∃ g, W0.heap.size = g := ⟨_, rfl⟩
    rw [hgx, hgw]
    clear hgx hgw
    intro wa h1
    have hib := h1.ib
    have hlw := h1.lw
    have H1 := hideE h1
    clear h1
    go_upto_region 8 with (first
      | (refine wpList_load_row rfl 25 _ rfl gx rfl _ _ _ _ hib Try.underlying25 rfl (by kernel_rfl) ?_)
      | (go_at_call 5; refine (findB_any false _ _ hlw).mono ?_; rintro e wb ⟨u, rfl, hrow, hb1⟩; obtain ⟨p1, c1, rfl⟩ := own_slice' hrow))
    refine gen_world (fun W => Lp w false gx (.slice (some ⟨gw, 0, none⟩) 2 2) (.slice (some ⟨w.heap.size, 0, none⟩) 1 1) W ∧ SlB W (.slice p1 2 c1) BB) ⟨H1.out.below hb1, slb_of_owns hrow⟩ ?_
    clear hib hlw H1 hb1 hrow
    rintro wc ⟨h2, hsb⟩
    have hib := h2.ib
    have hlw := h2.lw
    have H2 := hideE h2
    have HSB := hideE hsb
    clear h2 hsb
    go_upto_region 11 with (first
      | (refine wpList_load_row rfl 25 _ rfl gx rfl _ _ _ _ hib Try.underlying25 rfl (by kernel_rfl) ?_)
      | (go_at_call 7; refine (nextB_0 false _ _ _ hlw HSB.out).mono ?_; rintro e wd ⟨un, rfl, hsi, hb2⟩; obtain ⟨p2, c2, rfl⟩ := hsi.len))
    rw [show (wantB false).length = 1 from rfl] at hsi
    rw [show (wantB false).length = 1 from rfl]
    refine gen_world (fun W => Lp w false gx (.slice (some ⟨gw, 0, none⟩) 2 2) (.slice (some ⟨w.heap.size, 0, none⟩) 1 1) W ∧ SlB W (.slice p1 2 c1) BB ∧ SlI8 W (.slice p2 1 c2) (wantB false)) ⟨H2.out.below hb2, HSB.out.below hb2, hsi⟩ ?_
    clear hib hlw H2 HSB hb2 hsi
    rintro we ⟨h3, hsb, hsi⟩
    have hib := h3.ib
    have hlw := h3.lw
    have H3 := hideE h3
    have HSB := hideE hsb
    have HSI := hideE hsi
    clear h3 hsb hsi
    go_upto_region 12 with (first
      | (refine wpList_load_row rfl 25 _ rfl gx rfl _ _ _ _ hib Try.underlying25 rfl (by kernel_rfl) ?_)
      | (go_at_call 7; refine (nextB_1 false _ _ _ hlw HSB.out).mono ?_; rintro e wd ⟨um, rfl, hsm, hb3⟩; obtain ⟨p3, c3, rfl⟩ := hsm.len))
    refine gen_world (fun W => Lp w false gx (.slice (some ⟨gw, 0, none⟩) 2 2) (.slice (some ⟨w.heap.size, 0, none⟩) 1 1) W ∧ SlI8 W (.slice p2 1 c2) (wantB false)) ⟨H3.out.below hb3, HSI.out.below hb3⟩ ?_
    clear hib hlw H3 HSB HSI hb3 hsm
    rintro wf ⟨h4, hsi⟩
    have H4 := hideE h4
    have HSI := hideE hsi
    clear h4 hsi
    go_upto_region 15 with fail
    go_loopg [12] 1 (fun q j W => ∃ k : Nat, k + q = 1 ∧ j = .int .i64 (k : Int) ∧ Below wf.heap.size wf W)
    case atStart => exact ⟨0, by omega, rfl, Below.refl _ _⟩
    case round =>
      obtain ⟨k, hkq, rfl, hT⟩ := hrel
      cases gk with
      | zero =>
        obtain rfl : k = 1 := by omega
        have HL := hideE (H4.out.low.trans (hT.mono H4.out.low.size))
        clear hT
        go_wp2_with (go_at_call 6; refine (fixed8_any _).mono ?_; rintro e wz ⟨rfl, hbf⟩)
        go_ret
        exact ⟨rfl, HL.out.trans (hbf.mono HL.out.size)⟩
      | succ q =>
        have hk : ((k : Int) < (1 : Int)) := by omega
        have hk0 : (0 : Int) ≤ (k : Int) := by omega
        have hwk : IntKind.i64.wrap ((k : Int) + 1) = (k : Int) + 1 := wrE (by omega) (by omega)
        obtain ⟨x, hx⟩ : ∃ x, (wantB false)[k]? = some x := ⟨(wantB false)[k]'(by show k < 1; omega), List.getElem?_eq_getElem _⟩
        obtain ⟨g1, rfl, a3⟩ := (HSI.out.below hT).at hx
        obtain ⟨g2, hg2, a5⟩ := (H4.out.wi.below hT).at hx
        obtain rfl : w.heap.size = g2 := by injection hg2 with h; injection h
        have HTw := hideE hT
        clear hx hT hg2
        go_wp2_with fail
        go_quiet (fail)
        go_wp2_with fail
        go_roundg q
        case measure => omega
        case rel => exact ⟨k + 1, by omega, by simp, HTw.out.trans ((drew_low _ _ _).mono (HTw.out.size))⟩
  | true =>
    have hs0 := (show SlI8 ((w.alloc (.cells #[.int .i64 1] 3)).alloc (.cells #[.int .i64 0, .int .i64 1] 3)) (.slice (some ⟨w.heap.size + 1, 0, none⟩) 2 2) (wantB true) from by have h := sli_lit (w.alloc (.cells #[.int .i64 1] 3)) #[.int .i64 0, .int .i64 1] [0, 1] rfl; rw [World.size_alloc] at h; exact h)
    go_enter Try.func4, Try.ntmps4
    go_upto_region 6 with fail
    refine gen_world (fun W => Below w.heap.size w W ∧ SlI8 W (.slice (some ⟨w.heap.size + 1, 0, none⟩) 2 2) (wantB true)) ⟨((Below.refl _ w).alloc (Nat.le_refl _) _).alloc (by simp) _, hs0⟩ ?_
    clear hs0
    rintro W0 ⟨hlo, hwi⟩
    have hbx := heap_alloc_new (W0.alloc (.cells #[.int .u32 99, .int .u32 1048691] 22)) (.cells #[.int .u32 0, .int .u32 0, .slice none 0 0, .int .i64 0] 25)
    rw [World.size_alloc] at hbx
    have HLP := hideE (Lp.new (b := true) hlo hwi (.int .u32 99) rfl _ hbx)
    clear hlo hwi
    go_upto_region 7 with (refine wpList_store_row rfl 25 _ _ rfl (W0.heap.size + 1) _ rfl rfl _ _ hbx (by kernel_rfl) rfl (by kernel_rfl) ?_)
    refine gen_world (Lp w true (W0.heap.size + 1) (.slice (some ⟨W0.heap.size, 0, none⟩) 2 2) (.slice (some ⟨w.heap.size + 1, 0, none⟩) 2 2)) HLP.out ?_
    clear HLP hbx
    obtain ⟨gx, hgx⟩ : ∃ g, W0.heap.size + 1 = g := ⟨_, rfl⟩
    obtain ⟨gw, hgw⟩ : ∃ g, W0.heap.size = g := ⟨_, rfl⟩
    obtain ⟨gn, hgn⟩ : ∃ g, w.heap.size + 1 = g := ⟨_, rfl⟩
    rw [hgx, hgw, hgn]
    clear hgx hgw hgn
    intro wa h1
    have hib := h1.ib
    have hlw := h1.lw
    have H1 := hideE h1
    clear h1
    go_upto_region 8 with (first
      | (refine wpList_load_row rfl 25 _ rfl gx rfl _ _ _ _ hib Try.underlying25 rfl (by kernel_rfl) ?_)
      | (go_at_call 5; refine (findB_any true _ _ hlw).mono ?_; rintro e wb ⟨u, rfl, hrow, hb1⟩; obtain ⟨p1, c1, rfl⟩ := own_slice' hrow))
    refine gen_world (fun W => Lp w true gx (.slice (some ⟨gw, 0, none⟩) 2 2) (.slice (some ⟨gn, 0, none⟩) 2 2) W ∧ SlB W (.slice p1 2 c1) BB) ⟨H1.out.below hb1, slb_of_owns hrow⟩ ?_
    clear hib hlw H1 hb1 hrow
    rintro wc ⟨h2, hsb⟩
    have hib := h2.ib
    have hlw := h2.lw
    have H2 := hideE h2
    have HSB := hideE hsb
    clear h2 hsb
    go_upto_region 11 with (first
      | (refine wpList_load_row rfl 25 _ rfl gx rfl _ _ _ _ hib Try.underlying25 rfl (by kernel_rfl) ?_)
      | (go_at_call 7; refine (nextB_0 true _ _ _ hlw HSB.out).mono ?_; rintro e wd ⟨un, rfl, hsi, hb2⟩; obtain ⟨p2, c2, rfl⟩ := hsi.len))
    rw [show (wantB true).length = 2 from rfl] at hsi
    rw [show (wantB true).length = 2 from rfl]
    refine gen_world (fun W => Lp w true gx (.slice (some ⟨gw, 0, none⟩) 2 2) (.slice (some ⟨gn, 0, none⟩) 2 2) W ∧ SlB W (.slice p1 2 c1) BB ∧ SlI8 W (.slice p2 2 c2) (wantB true)) ⟨H2.out.below hb2, HSB.out.below hb2, hsi⟩ ?_
    clear hib hlw H2 HSB hb2 hsi
    rintro we ⟨h3, hsb, hsi⟩
    have hib := h3.ib
    have hlw := h3.lw
    have H3 := hideE h3
    have HSB := hideE hsb
    have HSI := hideE hsi
    clear h3 hsb hsi
    go_upto_region 12 with (first
      | (refine wpList_load_row rfl 25 _ rfl gx rfl _ _ _ _ hib Try.underlying25 rfl (by kernel_rfl) ?_)
      | (go_at_call 7; refine (nextB_1 true _ _ _ hlw HSB.out).mono ?_; rintro e wd ⟨um, rfl, hsm, hb3⟩; obtain ⟨p3, c3, rfl⟩ := hsm.len))
    refine gen_world (fun W => Lp w true gx (.slice (some ⟨gw, 0, none⟩) 2 2) (.slice (some ⟨gn, 0, none⟩) 2 2) W ∧ SlI8 W (.slice p2 2 c2) (wantB true)) ⟨H3.out.below hb3, HSI.out.below hb3⟩ ?_
    clear hib hlw H3 HSB HSI hb3 hsm
    rintro wf ⟨h4, hsi⟩
    have H4 := hideE h4
    have HSI := hideE hsi
    clear h4 hsi
    go_upto_region 15 with fail
    go_loopg [12] 2 (fun q j W => ∃ k : Nat, k + q = 2 ∧ j = .int .i64 (k : Int) ∧ Below wf.heap.size wf W)
    case atStart => exact ⟨0, by omega, rfl, Below.refl _ _⟩
    case round =>
      obtain ⟨k, hkq, rfl, hT⟩ := hrel
      cases gk with
      | zero =>
        obtain rfl : k = 2 := by omega
        have HL := hideE (H4.out.low.trans (hT.mono H4.out.low.size))
        clear hT
        go_wp2_with (go_at_call 6; refine (fixed8_any _).mono ?_; rintro e wz ⟨rfl, hbf⟩)
        go_ret
        exact ⟨rfl, HL.out.trans (hbf.mono HL.out.size)⟩
      | succ q =>
        have hk : ((k : Int) < (2 : Int)) := by omega
        have hk0 : (0 : Int) ≤ (k : Int) := by omega
        have hwk : IntKind.i64.wrap ((k : Int) + 1) = (k : Int) + 1 := wrE (by omega) (by omega)
        obtain ⟨x, hx⟩ : ∃ x, (wantB true)[k]? = some x := ⟨(wantB true)[k]'(by show k < 2; omega), List.getElem?_eq_getElem _⟩
        obtain ⟨g1, rfl, a3⟩ := (HSI.out.below hT).at hx
        obtain ⟨g2, hg2, a5⟩ := (H4.out.wi.below hT).at hx
        obtain rfl : gn = g2 := by injection hg2 with h; injection h
        have HTw := hideE hT
        clear hx hT hg2
        go_wp2_with fail
        go_quiet (fail)
        go_wp2_with fail
        go_roundg q
        case measure => omega
        case rel => exact ⟨k + 1, by omega, by simp, HTw.out.trans ((drew_low _ _ _).mono (HTw.out.size))⟩
end Go.Proofs.Ytlehjkegacbmnab
namespace Go.Proofs.Ytlehjkegacbmnab.blocksLoops
open Go.ChangeShapes Go.WideShapes Go.ChangeAt Go.RowKit
open Go.ChangeMaps (open_string shut_string)
set_option linter.unusedVariables false

theorem own : ownKnob Try.prog.godebug = none := by kernel_rfl

set_option maxRecDepth 100000 in
theorem lifted (os : Os) (started : os.Started) (H : Type) (enc : TypeId × Value → H) :
    ReturnsInHanded {} Try.checked os 4 .any (Rows.blocksLoopsSpec.pre6 enc Try.prog Try.f4 Rows.blocksLoopsRow.domain false) (Rows.blocksLoopsSpec.post enc Try.prog Try.f4 false true false false) := by
  refine returnsInHanded_of_change (C := Try.checked) own started (by kernel_rfl) Try.func4
    (ChangeSpec.witness6 (enc := enc) (C := Try.checked) false ⟨#[], #[.bool false], []⟩ 8 (by kernel_rfl) (by kernel_rfl) (by kernel_rfl) (by kernel_rfl)) ?_
  intro W base args ds gs before hval0 hW hcnd _
  have hval : ∀ (j : Nat) t v, Try.f4.params[j]? = some t → args[j]? = some v → Value.okWide Try.prog W .any base t v := hval0
  have hW' := hW
  obtain ⟨p, q, hA0, hV, rfl, hfz, hnd⟩ := hW
  have hA : DataW.TrodAll enc Try.prog W 0 (fun _ => true) true Try.f4.params.toList args.toList ds p := hA0
  rw [Try.params4] at hA hval
  obtain ⟨v0, vs0, d0, ds0, p0, q0, hargs, rfl, rfl, h0, r0⟩ := trodAll_cons hA
  obtain ⟨rfl, rfl, rfl⟩ := trodAll_nil r0
  obtain rfl : args = #[v0] := by cases args; simp_all
  obtain ⟨rfl, rfl⟩ := trodVars_none hV
  have hlt : ∀ x ∈ p0, x.block < W.heap.size := fun x hx => by simpa using hW'.lt x (by simpa using hx)
  have k0 := h0
  have l0 : ∀ x ∈ p0, x.block < W.heap.size := fun x hx => hlt x (by simp [hx])
  obtain ⟨b0, rfl, rfl, rfl⟩ := open_bool Try.underlying4 (hval 0 4 v0 rfl rfl) h0
  clear hA0 hval0
  refine (blocksLoops_walk b0 W).mono fun e W' ⟨he, hg⟩ => ?_
  subst he
  exact ⟨_, rfl, _, _, _, [], _, [], hW', trodAll_mk1 (shut_bool Try.underlying4 _), (trodAll_cons_mk (Below.trod laidOut6 (by kernel_rfl) (of_decide_eq_true (by kernel_rfl)) k0 hg l0) trodAll_mk0), rfl, hg.frame _, fun h => by cases h⟩

theorem over : Rows.blocksLoopsRow.holds Try.pinned (OpenSpec.ofChange Rows.blocksLoopsSpec) :=
  OpenClaim.holds_of_wide 4 Try.f4 rfl rfl rfl rfl rfl rfl rfl ⟨rfl, rfl, rfl, rfl, rfl⟩ rfl rfl rfl rfl rfl (by kernel_rfl) Try.func4 (by kernel_rfl)
    (of_decide_eq_true (by kernel_rfl)) (by unfold Func.isWrapper; first | (rw [if_pos (by decide +kernel)]; kernel_rfl) | (rw [if_neg (by decide +kernel)]; exact ⟨rfl, rfl⟩))
    (fun os started H enc _ => lifted os started H enc)

theorem proved : Rows.BlocksLoopsSaid :=
  over
#print axioms proved
end Go.Proofs.Ytlehjkegacbmnab.blocksLoops
