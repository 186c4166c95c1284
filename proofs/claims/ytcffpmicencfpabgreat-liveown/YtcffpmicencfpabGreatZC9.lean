/-
  Contracts of the document's layer 8: has, Ends, After, At.
  Contract of the document's After (layer 8).
-/
import Derived.Deep.DeepCutAuto
import Derived.Deep.CutRange
import Derived.Test.YtcffpmicencfpabGreatZC4
import Derived.Test.YtcffpmicencfpabGreatZr
import Derived.Test.YtcffpmicencfpabGreatZw
namespace Go.Proofs.YtcffpmicencfpabGreat
open Go.RowKit Go.Lib Go.Sort Ip Bl
set_option linter.unusedSimpArgs false
set_option linter.unusedVariables false

def hasL (l : List Nat) (a : Nat) : Bool := l.contains a
theorem hasL_iff {l : List Nat} {a : Nat} : hasL l a = true ↔ a ∈ l := List.contains_iff_mem
theorem take_hit {l : List Nat} {k x a : Nat} (h : l[k]? = some x) (hno : a ∉ l.take k) (hne : x ≠ a) : a ∉ l.take (k + 1) := by
  rw [List.take_add_one, h]
  simp only [Option.toList_some, List.mem_append, List.mem_singleton]
  exact fun e => e.elim hno (fun e => hne e.symm)
set_option maxHeartbeats 4000000 in
set_option maxRecDepth 100000 in
theorem has_any8 (l : List Nat) (v : Value) (a : Nat) (hl : l.length ≤ 4000000) (w : World) (hS : SlW w v l) :
    Calls Tryz.prog 10 #[v, .int .u32 (a : Int)] w fun e w' => e = .returned (.bool (hasL l a)) ∧ w' = w := by
  obtain ⟨p, c, rfl, _⟩ := hS.len
  obtain ⟨n, hn⟩ : ∃ n, l.length = n := ⟨_, rfl⟩
  rw [hn] at hl hS ⊢
  have HS := hideE hS
  have HN := hideE hn
  clear hS hn
  go_enter Tryz.func10, Tryz.ntmps10
  go_wp2_with fail
  go_loopg [5] n (fun q i W => ∃ k : Nat, k + q = n ∧ i = .int .i64 (k : Int) ∧ W = w ∧ a ∉ l.take k)
  case atStart => exact ⟨0, by omega, rfl, rfl, by simp⟩
  case round =>
    obtain ⟨k, hkq, rfl, rfl, hno⟩ := hrel
    have HNo := hideE hno
    clear hno
    cases gk with
    | zero =>
      obtain rfl : k = n := by omega
      have hk : ¬ ((k : Int) < (k : Int)) := by omega
      have hc : Hid (hasL l a = false) := by
        show _ = _
        unfold hasL
        have h := HNo.out
        rw [List.take_of_length_le (by rw [HN.out]; exact Nat.le_refl _)] at h
        simpa using h
      go_wp2_with fail
      go_ret
      exact ⟨retb hc.out.symm, rfl⟩
    | succ q =>
      have hk : ((k : Int) < (n : Int)) := by omega
      have hk0 : (0 : Int) ≤ (k : Int) := by omega
      have hwk : IntKind.i64.wrap ((k : Int) + 1) = (k : Int) + 1 := wrE (by omega) (by omega)
      obtain ⟨x, hx⟩ : ∃ x, l[k]? = some x := ⟨l[k]'(by rw [HN.out]; omega), List.getElem?_eq_getElem (by rw [HN.out]; omega)⟩
      obtain ⟨g, o, rfl, a3⟩ := HS.out.at hx
      have Hx := hideE hx
      clear hx
      by_cases hxa : x = a
      · subst hxa
        have hc : Hid (hasL l x = true) := hasL_iff.2 (List.mem_of_getElem? Hx.out)
        go_wp2_with fail
        go_ret
        exact ⟨retb hc.out.symm, rfl⟩
      · have hne : ((x : Int) == (a : Int)) = false := beq_eq_false_iff_ne.2 (by omega)
        have HX := hideE hxa
        clear hxa
        go_wp2_with fail
        go_roundg q
        case measure => omega
        case rel => exact ⟨k + 1, by omega, by simp, rfl, take_hit Hx.out HNo.out HX.out⟩
theorem rrightI_any (x : Ins) (w : World) : Calls Tryz.prog 23 #[.agg (insC x)] w fun e w' => e = .returned (.bool (rightI x)) ∧ Below w.heap.size w w' := rright_any _ _ _ _ _ w
set_option maxHeartbeats 4000000 in
theorem rends_any (x : Ins) (w : World) : Calls Tryz.prog 11 #[insV x] w fun e w' => e = .returned (.bool (endsI x)) ∧ Below w.heap.size w w' := by
  obtain ⟨op, rd, rs1, rs2, imm⟩ := x
  have hb0 : Below w.heap.size w (w.alloc (.cells #[.int .i64 op, .int .i64 rd, .int .i64 rs1, .int .i64 rs2, .int .i64 imm] 38)) := (Below.refl _ w).alloc (Nat.le_refl _) _
  have HB := hideE hb0
  have hbx := inst_box w op rd rs1 rs2 imm
  obtain ⟨r, hr⟩ : ∃ r, right op rd rs1 rs2 imm = r := ⟨_, rfl⟩
  have HR := hideE (fun W => hr ▸ rright_any op rd rs1 rs2 imm W)
  obtain ⟨fm, hfm⟩ : ∃ fm : Int, ((frm op : Nat) : Int) = fm := ⟨_, rfl⟩
  have HFm := hideE (fun W => hfm ▸ rform_any op W)
  have HE : Hid (endsI ⟨op, rd, rs1, rs2, imm⟩ = (!r || ((fm == 66) || ((op == 2) || ((op == 3) || (op == 46)))))) := by
    show endsB _ _ _ _ _ = _
    unfold endsB
    rw [hr, ← hfm, is66, beqD, beqD, beqD, ← Bool.decide_or, ← Bool.decide_or, ← Bool.decide_or]
  clear hb0 hr hfm
  simp only [insV]
  cases r
  · go_enter Tryz.func11, Tryz.ntmps11
    go_wp2_with (first
      | (go_at_call 23; refine (HR.out _).mono ?_; rintro e w1 ⟨rfl, hb1⟩; obtain ⟨c0, c1, c2, c3, c4⟩ := five (keptN hb1 hbx))
      | (go_at_call 24; refine (HFm.out _).mono ?_; rintro e w2 ⟨rfl, rfl⟩))
    go_ret
    exact ⟨retb (by rw [HE.out]; rfl), HB.out.trans (hb1.mono (by simp))⟩
  · by_cases h66 : fm = 66
    · have q66 : (fm == 66) = true := by rw [h66]; rfl
      have HT := hideE q66
      go_enter Tryz.func11, Tryz.ntmps11
      go_wp2_with (first
        | (go_at_call 23; refine (HR.out _).mono ?_; rintro e w1 ⟨rfl, hb1⟩; obtain ⟨c0, c1, c2, c3, c4⟩ := five (keptN hb1 hbx))
        | (go_at_call 24; refine (HFm.out _).mono ?_; rintro e w2 ⟨rfl, rfl⟩))
      go_ret
      exact ⟨retb (by rw [HE.out]; rw [HT.out]; rfl), HB.out.trans (hb1.mono (by simp))⟩
    · have q66 : (fm == 66) = false := beq_eq_false_iff_ne.2 h66
      have HT := hideE q66
      by_cases h2 : op = 2
      · subst h2
        go_enter Tryz.func11, Tryz.ntmps11
        go_wp2_with (first
          | (go_at_call 23; refine (HR.out _).mono ?_; rintro e w1 ⟨rfl, hb1⟩; obtain ⟨c0, c1, c2, c3, c4⟩ := five (keptN hb1 hbx))
          | (go_at_call 24; refine (HFm.out _).mono ?_; rintro e w2 ⟨rfl, rfl⟩))
        go_ret
        exact ⟨retb (by rw [HE.out]; simp), HB.out.trans (hb1.mono (by simp))⟩
      · have q2 : (op == 2) = false := beq_eq_false_iff_ne.2 h2
        by_cases h3 : op = 3
        · subst h3
          go_enter Tryz.func11, Tryz.ntmps11
          go_wp2_with (first
            | (go_at_call 23; refine (HR.out _).mono ?_; rintro e w1 ⟨rfl, hb1⟩; obtain ⟨c0, c1, c2, c3, c4⟩ := five (keptN hb1 hbx))
            | (go_at_call 24; refine (HFm.out _).mono ?_; rintro e w2 ⟨rfl, rfl⟩))
          go_ret
          exact ⟨retb (by rw [HE.out]; simp), HB.out.trans (hb1.mono (by simp))⟩
        · have q3 : (op == 3) = false := beq_eq_false_iff_ne.2 h3
          by_cases h46 : op = 46
          · subst h46
            go_enter Tryz.func11, Tryz.ntmps11
            go_wp2_with (first
              | (go_at_call 23; refine (HR.out _).mono ?_; rintro e w1 ⟨rfl, hb1⟩; obtain ⟨c0, c1, c2, c3, c4⟩ := five (keptN hb1 hbx))
              | (go_at_call 24; refine (HFm.out _).mono ?_; rintro e w2 ⟨rfl, rfl⟩))
            go_ret
            exact ⟨retb (by rw [HE.out]; simp), HB.out.trans (hb1.mono (by simp))⟩
          · have q46 : (op == 46) = false := beq_eq_false_iff_ne.2 h46
            have HQ := hideE (show (!true || ((fm == 66) || ((op == 2) || ((op == 3) || (op == 46))))) = false by rw [q66, q2, q3, q46]; rfl)
            go_enter Tryz.func11, Tryz.ntmps11
            go_wp2_with (first
              | (go_at_call 23; refine (HR.out _).mono ?_; rintro e w1 ⟨rfl, hb1⟩; obtain ⟨c0, c1, c2, c3, c4⟩ := five (keptN hb1 hbx))
              | (go_at_call 24; refine (HFm.out _).mono ?_; rintro e w2 ⟨rfl, rfl⟩))
            go_ret
            exact ⟨retb (by rw [HE.out]; rw [HQ.out]), HB.out.trans (hb1.mono (by simp))⟩
end Go.Proofs.YtcffpmicencfpabGreat
namespace Go.Proofs.YtcffpmicencfpabGreat
open Go.RowKit Go.Lib Go.Sort Ip Bl
set_option linter.unusedSimpArgs false
set_option linter.unusedVariables false

/-- While the document's After is at work. -/
structure AR (w : World) (op rd rs1 rs2 imm : Int) (W : World) : Prop where
  box : W.heap[w.heap.size]? = some (.cells #[.int .i64 op, .int .i64 rd, .int .i64 rs1, .int .i64 rs2, .int .i64 imm] 38 (0, 0))
  low : Below w.heap.size w W
theorem AR.own {w W : World} {op rd rs1 rs2 imm : Int} (h : AR w op rd rs1 rs2 imm W) (l : List Nat) (cs : Array Value) (hcs : cs.toList = l.map wordV) (hl : l.length ≤ 2) : (W.alloc (.cells cs 22)).ownsRow w.heap.size 22 1 (.slice (some ⟨W.heap.size, 0, none⟩) l.length l.length) l.length (l.map wordV) ∧ Below w.heap.size w (W.alloc (.cells cs 22)) := by
  have := World.ownsRow_lit (e := 22) (size := 1) W cs l.length h.low.size (by unfold maxLen; omega) (by
    have e := congrArg List.length hcs
    rw [List.length_map, Array.length_toList] at e
    omega)
  rw [hcs] at this
  exact ⟨this, h.low.alloc h.low.size _⟩
set_option maxHeartbeats 8000000 in
set_option maxRecDepth 100000 in
theorem rafter_any (x : Ins) (a : Nat) (w : World) :
    Calls Tryz.prog 20 #[insV x, .int .u32 (a : Int)] w fun e w' => ∃ v, e = .returned v ∧ w'.ownsRow w.heap.size 22 1 v (aftI x a).length ((aftI x a).map wordV) ∧ Below w.heap.size w w' := by
  obtain ⟨op, rd, rs1, rs2, imm⟩ := x
  have hb0 : Below w.heap.size w (w.alloc (.cells #[.int .i64 op, .int .i64 rd, .int .i64 rs1, .int .i64 rs2, .int .i64 imm] 38)) := (Below.refl _ w).alloc (Nat.le_refl _) _
  have hbx := inst_box w op rd rs1 rs2 imm
  have hA0 : AR w op rd rs1 rs2 imm (w.alloc (.cells #[.int .i64 op, .int .i64 rd, .int .i64 rs1, .int .i64 rs2, .int .i64 imm] 38)) := ⟨hbx, hb0⟩
  have HA0 := hideE hA0
  obtain ⟨r, hr⟩ : ∃ r, right op rd rs1 rs2 imm = r := ⟨_, rfl⟩
  have HR := hideE (fun W => hr ▸ rright_any op rd rs1 rs2 imm W)
  obtain ⟨fm, hfm⟩ : ∃ fm : Int, ((frm op : Nat) : Int) = fm := ⟨_, rfl⟩
  have HFm := hideE (fun W => hfm ▸ rform_any op W)
  have hg : goesB op = ((op == 2) || (fm == 66)) := by unfold goesB; rw [← hfm, is66, beqD, ← Bool.decide_or]
  have hs : staysB op rd = (((op != 2) && (op != 3)) || (rd != 0)) := by
    unfold staysB
    simp only [bne, beqD]
    by_cases h2 : op = 2 <;> by_cases h3 : op = 3 <;> by_cases h0 : rd = 0 <;> simp [h2, h3, h0]
  have e1 := toA_u a imm
  have e2 := nxA_u a
  have HGo := hideE hg
  have HSt := hideE hs
  have hL : aftI ⟨op, rd, rs1, rs2, imm⟩ a = if r = false ∨ op = 46 then [] else if goesB op = true ∧ staysB op rd = true ∧ toA a imm ≠ nxA a then [min (toA a imm) (nxA a), max (toA a imm) (nxA a)] else if goesB op = true then [toA a imm] else if staysB op rd = true then [nxA a] else [] := by
    unfold aftI aft; rw [hr]
  have HL := hideE hL
  clear hb0 hr hfm hg hs hL hA0
  simp only [insV]
  cases r
  · have hl0 : Hid (aftI ⟨op, rd, rs1, rs2, imm⟩ a = []) := by show _ = _; rw [HL.out, if_pos (.inl rfl)]
    go_enter Tryz.func20, Tryz.ntmps20
    go_wp2_with (go_at_call 23; refine (HR.out _).mono ?_; rintro e w1 ⟨rfl, hb1⟩; obtain ⟨c0, c1, c2, c3, c4⟩ := five (keptN hb1 hbx))
    go_ret
    rw [hl0.out]
    have hz := HA0.out.low.trans (hb1.mono (by simp))
    exact ⟨_, rfl, (AR.own ⟨keptN hb1 hbx, hz⟩ [] #[] rfl (by simp)).1, (AR.own ⟨keptN hb1 hbx, hz⟩ [] #[] rfl (by simp)).2⟩
  · by_cases h46 : op = 46
    · subst h46
      have hl0 : Hid (aftI ⟨46, rd, rs1, rs2, imm⟩ a = []) := by show _ = _; rw [HL.out, if_pos (.inr rfl)]
      go_enter Tryz.func20, Tryz.ntmps20
      go_wp2_with (go_at_call 23; refine (HR.out _).mono ?_; rintro e w1 ⟨rfl, hb1⟩; obtain ⟨c0, c1, c2, c3, c4⟩ := five (keptN hb1 hbx))
      go_ret
      rw [hl0.out]
      have hz := HA0.out.low.trans (hb1.mono (by simp))
      exact ⟨_, rfl, (AR.own ⟨keptN hb1 hbx, hz⟩ [] #[] rfl (by simp)).1, (AR.own ⟨keptN hb1 hbx, hz⟩ [] #[] rfl (by simp)).2⟩
    · have q46 : (op == 46) = false := beq_eq_false_iff_ne.2 h46
      have HL2 : Hid (aftI ⟨op, rd, rs1, rs2, imm⟩ a = if goesB op = true ∧ staysB op rd = true ∧ toA a imm ≠ nxA a then [min (toA a imm) (nxA a), max (toA a imm) (nxA a)] else if goesB op = true then [toA a imm] else if staysB op rd = true then [nxA a] else []) := by
        show _ = _; rw [HL.out, if_neg (fun h => h.elim (fun h => by cases h) h46)]
      clear h46 HL
      go_enter Tryz.func20, Tryz.ntmps20
      go_upto_region 4 with (go_at_call 23; refine (HR.out _).mono ?_; rintro e w1 ⟨rfl, hb1⟩; obtain ⟨c0, c1, c2, c3, c4⟩ := five (keptN hb1 hbx))
      refine gen_world (AR w op rd rs1 rs2 imm) ⟨keptN hb1 hbx, HA0.out.low.trans (hb1.mono (by simp))⟩ ?_
      clear hb1 hbx c0 c1 c2 c3 c4 HR HA0
      intro wa hA
      obtain ⟨c0, c1, c2, c3, c4⟩ := five hA.box
      have HA := hideE hA
      clear hA
      go_cut [7] (fun u W => u = .bool (goesB op) ∧ AR w op rd rs1 rs2 imm W)
      case first =>
        by_cases h2 : op = 2
        · subst h2
          go_wp2_with fail
          go_meet
          case rel => exact ⟨by rw [HGo.out]; rfl, HA.out⟩
        · have q2 : (op == 2) = false := beq_eq_false_iff_ne.2 h2
          have HQ : Hid (goesB op = (fm == 66)) := by show _ = _; rw [HGo.out, q2]; rfl
          clear h2
          go_wp2_with (go_at_call 24; refine (HFm.out _).mono ?_; rintro e w2 ⟨rfl, rfl⟩)
          go_meet
          case rel => exact ⟨by rw [HQ.out], HA.out⟩
      case rest =>
        obtain ⟨rfl, hA2⟩ := hcut
        obtain ⟨c0, c1, c2, c3, c4⟩ := five hA2.box
        have HA2 := hideE hA2
        clear hA2
        go_upto_region 5 with fail
        go_cut [8] (fun u W => u = .bool (staysB op rd) ∧ AR w op rd rs1 rs2 imm W)
        case first =>
          by_cases h2 : op = 2
          · subst h2
            have HQ : Hid (staysB 2 rd = (rd != 0)) := by show _ = _; rw [HSt.out]; rfl
            go_wp2_with fail
            go_meet
            case rel => exact ⟨by rw [HQ.out], HA2.out⟩
          · have q2 : (op != 2) = true := bne_iff_ne.2 h2
            by_cases h3 : op = 3
            · subst h3
              have HQ : Hid (staysB 3 rd = (rd != 0)) := by show _ = _; rw [HSt.out]; rfl
              clear h2 q2
              go_wp2_with fail
              go_meet
              case rel => exact ⟨by rw [HQ.out], HA2.out⟩
            · have q3 : (op != 3) = true := bne_iff_ne.2 h3
              have HQ : Hid (staysB op rd = true) := by show _ = _; rw [HSt.out, q2, q3]; rfl
              clear h2 h3
              go_wp2_with fail
              go_meet
              case rel => exact ⟨by rw [HQ.out], HA2.out⟩
        case rest =>
          obtain ⟨rfl, hA3⟩ := hcut
          have HA3 := hideE hA3
          clear hA3
          obtain ⟨G, hG⟩ : ∃ G, goesB op = G := ⟨_, rfl⟩
          obtain ⟨S, hS⟩ : ∃ S, staysB op rd = S := ⟨_, rfl⟩
          have HG := hideE hG
          have HS := hideE hS
          rw [hG, hS]
          have hT1 : toA a imm < 4294967296 := by unfold toA; omega
          have hT2 : nxA a < 4294967296 := by unfold nxA; omega
          obtain ⟨t, ht⟩ : ∃ t, toA a imm = t := ⟨_, rfl⟩
          obtain ⟨n, hn⟩ : ∃ n, nxA a = n := ⟨_, rfl⟩
          rw [ht] at hT1 HL2 ⊢
          rw [hn] at hT2 HL2 ⊢
          clear hG hS ht hn e1 e2
          cases G
          · cases S
            · have hl0 : Hid (aftI ⟨op, rd, rs1, rs2, imm⟩ a = []) := by show _ = _; rw [HL2.out, HG.out, HS.out]; simp
              go_wp2_with fail
              go_ret
              rw [hl0.out]
              exact ⟨_, rfl, (HA3.out.own [] #[] rfl (by simp)).1, (HA3.out.own [] #[] rfl (by simp)).2⟩
            · have hl0 : Hid (aftI ⟨op, rd, rs1, rs2, imm⟩ a = [n]) := by show _ = _; rw [HL2.out, HG.out, HS.out]; simp
              go_wp2_with fail
              go_ret
              rw [hl0.out]
              exact ⟨_, rfl, (HA3.out.own [n] #[.int .u32 (n : Int)] rfl (by simp)).1, (HA3.out.own [n] #[.int .u32 (n : Int)] rfl (by simp)).2⟩
          · cases S
            · have hl0 : Hid (aftI ⟨op, rd, rs1, rs2, imm⟩ a = [t]) := by show _ = _; rw [HL2.out, HG.out, HS.out]; simp
              go_wp2_with fail
              go_ret
              rw [hl0.out]
              exact ⟨_, rfl, (HA3.out.own [t] #[.int .u32 (t : Int)] rfl (by simp)).1, (HA3.out.own [t] #[.int .u32 (t : Int)] rfl (by simp)).2⟩
            · by_cases htn : t = n
              · have hl0 : Hid (aftI ⟨op, rd, rs1, rs2, imm⟩ a = [t]) := by show _ = _; rw [HL2.out, HG.out, HS.out]; simp [htn]
                have hq : ((t : Int) != (n : Int)) = false := by rw [htn]; simp
                clear htn
                go_wp2_with fail
                go_ret
                rw [hl0.out]
                exact ⟨_, rfl, (HA3.out.own [t] #[.int .u32 (t : Int)] rfl (by simp)).1, (HA3.out.own [t] #[.int .u32 (t : Int)] rfl (by simp)).2⟩
              · have hl0 : Hid (aftI ⟨op, rd, rs1, rs2, imm⟩ a = [min t n, max t n]) := by show _ = _; rw [HL2.out, HG.out, HS.out]; simp [htn]
                have hq : ((t : Int) != (n : Int)) = true := bne_iff_ne.2 (by omega)
                have e5 : min (t : Int) (n : Int) = ((min t n : Nat) : Int) := by omega
                have e6 : max (t : Int) (n : Int) = ((max t n : Nat) : Int) := by omega
                have E5 := hideE e5
                have E6 := hideE e6
                clear htn e5 e6
                go_wp2_with fail
                go_ret
                rw [hl0.out, E5.out, E6.out]
                exact ⟨_, rfl, (HA3.out.own [min t n, max t n] #[.int .u32 ((min t n : Nat) : Int), .int .u32 ((max t n : Nat) : Int)] rfl (by simp)).1, (HA3.out.own [min t n, max t n] #[.int .u32 ((min t n : Nat) : Int), .int .u32 ((max t n : Nat) : Int)] rfl (by simp)).2⟩
end Go.Proofs.YtcffpmicencfpabGreat
