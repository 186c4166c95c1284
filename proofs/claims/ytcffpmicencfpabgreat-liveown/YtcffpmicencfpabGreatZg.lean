/-
  The library's sort at words of 32 bits: the two ways to part a range.
  The library's sort at words of 32 bits: the generator of places, and a pattern broken by it.
-/
import Derived.Sort.WalkC4
import Derived.Sort.Walk7
import Derived.Test.YtcffpmicencfpabGreatZf
namespace Go.Proofs.YtcffpmicencfpabGreat
open Go.RowKit Go.Sort

set_option maxHeartbeats 6400000 in
set_option maxRecDepth 100000 in
theorem partEqual_u (blk off cap a b pivot : Nat) (d : Array Int) (w : World) (hH : Holds U w blk off d) (hap : a ≤ pivot) (hpb : pivot < b) (hb : b ≤ d.size) (hsz : d.size < 4611686018427387904) :
    Calls Tryz.prog 98 #[.slice (some ⟨blk, off, none⟩) d.size cap, .int .i64 a, .int .i64 b, .int .i64 pivot] w fun e w' =>
      e = .returned (.int .i64 (partitionEqual ltInt d a b pivot).1) ∧ ∃ n, w' = putRow U (Sort.ahead w n) blk off (partitionEqual ltInt d a b pivot).2 := by
  have hla : a < d.size := by omega
  have hlp : pivot < d.size := by omega
  obtain ⟨G, hG⟩ : ∃ G : Nat → Int, ∀ j, G j = d[j]! := ⟨fun j => d[j]!, fun _ => rfl⟩
  have ca : w.cell? ⟨blk, off + a, none⟩ = some (.int .u32 (G a)) := by rw [hG]; exact (hH a hla).1
  have fa := (hH a hla).2
  have cp : w.cell? ⟨blk, off + pivot, none⟩ = some (.int .u32 (G pivot)) := by rw [hG]; exact (hH pivot hlp).1
  have fp := (hH pivot hlp).2
  obtain ⟨v', hy'⟩ := cell?_setCell_some (w := w) (p := ⟨blk, off + a, none⟩) (x := .int .u32 (G pivot)) (q := ⟨blk, off + pivot, none⟩) cp
  have hw0 : ((w.setCell ⟨blk, off + a, none⟩ (.int .u32 (G pivot))).setCell ⟨blk, off + pivot, none⟩ (.int .u32 (G a))).drew = (putRow U w blk off (swp d a pivot)).drewN 1 := by
    have e := swap_worldC U w blk off d 0 a pivot hla hlp
    rw [putRow_self _ w blk off d hH] at e
    rw [hG a, hG pivot]
    exact e
  have AH : Hid (Holds U w blk off d) := hH
  have HW0 := hide hw0
  clear hG hH hw0
  go_enter Tryz.func98, Tryz.ntmps98
  go_wp2
  go_region
  go_wp2
  go_loopw [9, 10] (fun u v W => ∃ (i j n : Nat) (y : Array Int), u = .int .i64 i ∧ v = .int .i64 j ∧ a < i ∧ i ≤ j + 1 ∧ j < b ∧ y.size = d.size ∧ W = (putRow U w blk off y).drewN n ∧
      partEqLoop ltInt a i j y = partEqLoop ltInt a (a + 1) (b - 1) (swp d a pivot)) (fun u v _ => (Go.Proofs.intOf v).toNat + 1 - (Go.Proofs.intOf u).toNat)
  case atStart => exact ⟨a + 1, b - 1, 1, swp d a pivot, by go_num, by go_num, by omega, by omega, by omega, size_swp _ _ _, HW0.out, rfl⟩
  case round =>
    obtain ⟨i, j, n, y, rfl, rfl, hai, hij, hjb, hs, hV, hE⟩ := hrel
    clear ca fa cp fp hy' v' HW0
    rename World => V
    have AE := hide hE
    clear hE
    have hK : Holds U V blk off y := by rw [hV]; exact holds_putRow U w blk off d y AH.out hs
    obtain ⟨g, hg'⟩ : ∃ g : Nat → Int, ∀ t, g t = y[t]! := ⟨fun t => y[t]!, fun _ => rfl⟩
    have rd : ∀ t, t < d.size → V.cell? ⟨blk, off + t, none⟩ = some (.int .u32 (g t)) := fun t ht => by rw [hg']; exact (hK t (by omega)).1
    have fz : ∀ t, t < d.size → V.frozen? ⟨blk, off + t, none⟩ = false := fun t ht => (hK t (by omega)).2
    have hg : Hid (∀ t, g t = y[t]!) := hg'
    have AV : Hid (V = (putRow U w blk off y).drewN n) := hV
    clear hg' hV hK
    go_wp2
    go_loopw [9] (fun u W => ∃ (i' m1 : Nat), u = .int .i64 i' ∧ i ≤ i' ∧ i' ≤ j + 1 ∧ W = V.drewN m1 ∧ Hid (scanUp (fun x => !ltInt y[a]! x) y j i' = scanUp (fun x => !ltInt y[a]! x) y j i)) (fun u _ => j + 1 - (Go.Proofs.intOf u).toNat)
    case atStart => exact ⟨i, 0, rfl, Nat.le_refl _, hij, rfl, rfl⟩
    case round =>
      obtain ⟨i', m1, rfl, hii, hij', hwu, hsc⟩ := hrel
      have rdw : ∀ t, t < d.size → wr.cell? ⟨blk, off + t, none⟩ = some (.int .u32 (g t)) := fun t ht => by rw [hwu]; exact rd t ht
      have hw1 := hide hwu
      clear hwu
      by_cases hle : i' ≤ j
      · go_wp2_with fail
        go_big_quiet (first | (go_at_call 97; refine Calls.quiet_of_same (less_u _ _ _)))
        go_wp2
        · have ht : (!ltInt (g a) (g i')) = true := by assumption
          go_roundw
          case rel => exact ⟨i' + 1, m1 + nq, by go_num, by omega, by omega, by rw [hw1.out, World.drewN_drewN], (scanUp_go (fun x => !ltInt y[a]! x) y j i' hle (by rw [← hg.out a, ← hg.out i']; exact ht)).symm.trans hsc.out⟩
          case measure => simp [Go.Proofs.intOf]; omega
        · have ht : (!ltInt (g a) (g i')) = false := by assumption
          have hi2 := hide ((scanUp_end (fun x => !ltInt y[a]! x) y j i' (Or.inr (by rw [← hg.out a, ← hg.out i']; exact ht))).symm.trans hsc.out)
          clear ht
          have hw2 : wr.drewN nq = V.drewN (m1 + nq) := by rw [hw1.out, World.drewN_drewN]
          clear rdw hw1 hsc
          go_loopw [10] (fun u W => ∃ (j' m2 : Nat), u = .int .i64 j' ∧ j' ≤ j ∧ i' ≤ j' + 1 ∧ W = V.drewN m2 ∧ Hid (scanDown (fun x => ltInt y[a]! x) y i' j' = scanDown (fun x => ltInt y[a]! x) y i' j)) (fun u _ => (Go.Proofs.intOf u).toNat)
          case atStart => exact ⟨j, m1 + nq, rfl, Nat.le_refl _, hij', hw2, rfl⟩
          case round =>
            clear hw2
            obtain ⟨j', m2, rfl, hjj, hij2, hwd, hsd⟩ := hrel
            have rdw : ∀ t, t < d.size → wr.cell? ⟨blk, off + t, none⟩ = some (.int .u32 (g t)) := fun t ht => by rw [hwd]; exact rd t ht
            have hw2 := hide hwd
            clear hwd
            by_cases hle2 : i' ≤ j'
            · go_wp2_with fail
              go_big_quiet (first | (go_at_call 97; refine Calls.quiet_of_same (less_u _ _ _)))
              go_wp2
              · have ht : ltInt (g a) (g j') = true := by assumption
                go_roundw
                case rel => exact ⟨j' - 1, m2 + nq, by go_num, by omega, by omega, by rw [hw2.out, World.drewN_drewN], (scanDown_go (fun x => ltInt y[a]! x) y i' j' hle2 (by omega) (by rw [← hg.out a, ← hg.out j']; exact ht)).symm.trans hsd.out⟩
                case measure => simp [Go.Proofs.intOf]; omega
              · have ht : ltInt (g a) (g j') = false := by assumption
                have hj2 := hide ((scanDown_end (fun x => ltInt y[a]! x) y i' j' (Or.inr (by rw [← hg.out a, ← hg.out j']; exact ht))).symm.trans hsd.out)
                clear rdw hsd ht
                have hV3 : wr.drewN nq = V.drewN (m2 + nq) := by rw [hw2.out, World.drewN_drewN]
                generalize wr.drewN nq = V3 at hV3 ⊢
                have rd3 : ∀ t, t < d.size → V3.cell? ⟨blk, off + t, none⟩ = some (.int .u32 (g t)) := fun t ht => by rw [hV3]; exact rd t ht
                have fz3 : ∀ t, t < d.size → V3.frozen? ⟨blk, off + t, none⟩ = false := fun t ht => by rw [hV3]; exact fz t ht
                have HV3 := hide hV3
                clear hV3
                obtain ⟨v3, hy3⟩ := cell?_setCell_some (w := V3) (p := ⟨blk, off + i', none⟩) (x := .int .u32 (g j')) (q := ⟨blk, off + j', none⟩) (rd3 j' (by omega))
                have hlt3 := scans_lt ltInt a i j y (by omega) hi2.out hj2.out hle2
                go_wp2
                go_region
                all_goals go_wp2
                all_goals go_roundw
                case rel =>
                  refine ⟨i' + 1, j' - 1, n + (m2 + nq) + 1, swp y i' j', by go_num, by go_num, by omega, by omega, by omega, by rw [size_swp]; exact hs, ?_, ?_⟩
                  · rw [HV3.out, AV.out, World.drewN_drewN, hg.out i', hg.out j']
                    exact swap_worldC U w blk off y _ i' j' (by omega) (by omega)
                  · rw [← AE.out]; exact (partEq_go ltInt a i j y hi2.out hj2.out (by omega)).symm
                case measure => simp [Go.Proofs.intOf]; omega
            · go_wp2_with fail
              go_big_quiet (first | (go_at_call 97; refine Calls.quiet_of_same (less_u _ _ _)))
              have hj2 := hide ((scanDown_end (fun x => ltInt y[a]! x) y i' j' (Or.inl hle2)).symm.trans hsd.out)
              clear rdw hsd
              have hV3 : wr.drewN nq = V.drewN (m2 + nq) := by rw [hw2.out, World.drewN_drewN]
              generalize wr.drewN nq = V3 at hV3 ⊢
              have rd3 : ∀ t, t < d.size → V3.cell? ⟨blk, off + t, none⟩ = some (.int .u32 (g t)) := fun t ht => by rw [hV3]; exact rd t ht
              have fz3 : ∀ t, t < d.size → V3.frozen? ⟨blk, off + t, none⟩ = false := fun t ht => by rw [hV3]; exact fz t ht
              have HV3 := hide hV3
              clear hV3
              go_wp2
              go_ret
              have e := partEq_break ltInt a i j y hi2.out hj2.out (by omega)
              refine ⟨?_, n + (m2 + nq), ?_⟩
              · unfold partitionEqual; rw [← AE.out, e]; rfl
              · unfold partitionEqual; rw [← AE.out, e, HV3.out, AV.out, World.drewN_drewN]; rfl
      · go_wp2_with fail
        go_big_quiet (first | (go_at_call 97; refine Calls.quiet_of_same (less_u _ _ _)))
        go_wp2
        have hi2 := hide ((scanUp_end (fun x => !ltInt y[a]! x) y j i' (Or.inl hle)).symm.trans hsc.out)
        have hw2 : wr.drewN nq = V.drewN (m1 + nq) := by rw [hw1.out, World.drewN_drewN]
        clear rdw hw1 hsc
        go_loopw [10] (fun u W => ∃ (j' m2 : Nat), u = .int .i64 j' ∧ j' ≤ j ∧ i' ≤ j' + 1 ∧ W = V.drewN m2 ∧ Hid (scanDown (fun x => ltInt y[a]! x) y i' j' = scanDown (fun x => ltInt y[a]! x) y i' j)) (fun u _ => (Go.Proofs.intOf u).toNat)
        case atStart => exact ⟨j, m1 + nq, rfl, Nat.le_refl _, hij', hw2, rfl⟩
        case round =>
          clear hw2
          obtain ⟨j', m2, rfl, hjj, hij2, hwd, hsd⟩ := hrel
          have rdw : ∀ t, t < d.size → wr.cell? ⟨blk, off + t, none⟩ = some (.int .u32 (g t)) := fun t ht => by rw [hwd]; exact rd t ht
          have hw2 := hide hwd
          clear hwd
          by_cases hle2 : i' ≤ j'
          · exfalso; omega
          · go_wp2_with fail
            go_big_quiet (first | (go_at_call 97; refine Calls.quiet_of_same (less_u _ _ _)))
            have hj2 := hide ((scanDown_end (fun x => ltInt y[a]! x) y i' j' (Or.inl hle2)).symm.trans hsd.out)
            clear rdw hsd
            have hV3 : wr.drewN nq = V.drewN (m2 + nq) := by rw [hw2.out, World.drewN_drewN]
            generalize wr.drewN nq = V3 at hV3 ⊢
            have rd3 : ∀ t, t < d.size → V3.cell? ⟨blk, off + t, none⟩ = some (.int .u32 (g t)) := fun t ht => by rw [hV3]; exact rd t ht
            have fz3 : ∀ t, t < d.size → V3.frozen? ⟨blk, off + t, none⟩ = false := fun t ht => by rw [hV3]; exact fz t ht
            have HV3 := hide hV3
            clear hV3
            go_wp2
            go_ret
            have e := partEq_break ltInt a i j y hi2.out hj2.out (by omega)
            refine ⟨?_, n + (m2 + nq), ?_⟩
            · unfold partitionEqual; rw [← AE.out, e]; rfl
            · unfold partitionEqual; rw [← AE.out, e, HV3.out, AV.out, World.drewN_drewN]; rfl

set_option maxHeartbeats 12800000 in
set_option maxRecDepth 100000 in
theorem part_u (blk off cap a b pivot : Nat) (d : Array Int) (w : World) (hH : Holds U w blk off d) (hap : a ≤ pivot) (hpb : pivot < b) (hb : b ≤ d.size) (hsz : d.size < 4611686018427387904) :
    Calls Tryz.prog 99 #[.slice (some ⟨blk, off, none⟩) d.size cap, .int .i64 a, .int .i64 b, .int .i64 pivot] w fun e w' =>
      e = .returned (.tuple #[.int .i64 (partition ltInt d a b pivot).1, .bool (partition ltInt d a b pivot).2.1]) ∧ ∃ n, w' = putRow U (Sort.ahead w n) blk off (partition ltInt d a b pivot).2.2 := by
  have hla : a < d.size := by omega
  have hlp : pivot < d.size := by omega
  obtain ⟨G, hG⟩ : ∃ G : Nat → Int, ∀ j, G j = d[j]! := ⟨fun j => d[j]!, fun _ => rfl⟩
  have ca : w.cell? ⟨blk, off + a, none⟩ = some (.int .u32 (G a)) := by rw [hG]; exact (hH a hla).1
  have fa := (hH a hla).2
  have cp : w.cell? ⟨blk, off + pivot, none⟩ = some (.int .u32 (G pivot)) := by rw [hG]; exact (hH pivot hlp).1
  have fp := (hH pivot hlp).2
  obtain ⟨v', hy'⟩ := cell?_setCell_some (w := w) (p := ⟨blk, off + a, none⟩) (x := .int .u32 (G pivot)) (q := ⟨blk, off + pivot, none⟩) cp
  have hw0 : ((w.setCell ⟨blk, off + a, none⟩ (.int .u32 (G pivot))).setCell ⟨blk, off + pivot, none⟩ (.int .u32 (G a))).drew = (putRow U w blk off (swp d a pivot)).drewN 1 := by
    have e := swap_worldC U w blk off d 0 a pivot hla hlp
    rw [putRow_self _ w blk off d hH] at e
    rw [hG a, hG pivot]
    exact e
  have AH : Hid (Holds U w blk off d) := hH
  have HW0 := hide hw0
  clear hG hH hw0
  go_enter Tryz.func99, Tryz.ntmps99
  go_wp2
  go_region
  go_wp2
  clear ca fa cp fp hy' v'
  have hV := HW0.out
  clear HW0
  generalize ((w.setCell ⟨blk, off + a, none⟩ (.int .u32 (G pivot))).setCell ⟨blk, off + pivot, none⟩ (.int .u32 (G a))).drew = V at hV ⊢
  obtain ⟨y, hy⟩ : ∃ y, y = swp d a pivot := ⟨_, rfl⟩
  obtain ⟨n, hn⟩ : ∃ n : Nat, n = 1 := ⟨_, rfl⟩
  rw [← hy, ← hn] at hV
  clear hn
  have hs : y.size = d.size := by rw [hy, size_swp]
  rw [show ((a : Int) + 1) = ((a + 1 : Nat) : Int) by omega, show ((b : Int) - 1) = ((b - 1 : Nat) : Int) by omega]
  obtain ⟨i, hi⟩ : ∃ i, i = a + 1 := ⟨_, rfl⟩
  obtain ⟨j, hj⟩ : ∃ j, j = b - 1 := ⟨_, rfl⟩
  rw [← hi, ← hj]
  have hai : a < i := by omega
  have hij : i ≤ j + 1 := by omega
  have hjb : j < b := by omega
  have HI := hide hi
  have HJ := hide hj
  have HY := hide hy
  clear hi hj hy
  have hK : Holds U V blk off y := by rw [hV]; exact holds_putRow U w blk off d y AH.out hs
  obtain ⟨g, hg'⟩ : ∃ g : Nat → Int, ∀ t, g t = y[t]! := ⟨fun t => y[t]!, fun _ => rfl⟩
  have rd : ∀ t, t < d.size → V.cell? ⟨blk, off + t, none⟩ = some (.int .u32 (g t)) := fun t ht => by rw [hg']; exact (hK t (by omega)).1
  have fz : ∀ t, t < d.size → V.frozen? ⟨blk, off + t, none⟩ = false := fun t ht => (hK t (by omega)).2
  have hg : Hid (∀ t, g t = y[t]!) := hg'
  have AV : Hid (V = (putRow U w blk off y).drewN n) := hV
  clear hg' hV hK
  go_loopw [10] (fun u W => ∃ (i' m1 : Nat), u = .int .i64 i' ∧ i ≤ i' ∧ i' ≤ j + 1 ∧ W = V.drewN m1 ∧ Hid (scanUp (fun x => ltInt x y[a]!) y j i' = scanUp (fun x => ltInt x y[a]!) y j i)) (fun u _ => j + 1 - (Go.Proofs.intOf u).toNat)
  case atStart => exact ⟨i, 0, rfl, Nat.le_refl _, hij, rfl, rfl⟩
  case round =>
    obtain ⟨i', m1, rfl, hii, hij', hwu, hsc⟩ := hrel
    have rdw : ∀ t, t < d.size → wr.cell? ⟨blk, off + t, none⟩ = some (.int .u32 (g t)) := fun t ht => by rw [hwu]; exact rd t ht
    have hw1 := hide hwu
    clear hwu
    by_cases hle : i' ≤ j
    · go_wp2_with fail
      go_big_quiet (first | (go_at_call 97; refine Calls.quiet_of_same (less_u _ _ _)))
      go_wp2
      · have ht : ltInt (g i') (g a) = true := by assumption
        go_roundw
        case rel => exact ⟨i' + 1, m1 + nq, by go_num, by omega, by omega, by rw [hw1.out, World.drewN_drewN], (scanUp_go (fun x => ltInt x y[a]!) y j i' hle (by rw [← hg.out a, ← hg.out i']; exact ht)).symm.trans hsc.out⟩
        case measure => simp [Go.Proofs.intOf]; omega
      · have ht : ltInt (g i') (g a) = false := by assumption
        have hi2 := hide ((scanUp_end (fun x => ltInt x y[a]!) y j i' (Or.inr (by rw [← hg.out a, ← hg.out i']; exact ht))).symm.trans hsc.out)
        clear ht
        have hw2 : wr.drewN nq = V.drewN (m1 + nq) := by rw [hw1.out, World.drewN_drewN]
        clear rdw hw1 hsc
        go_loopw [11] (fun u W => ∃ (j' m2 : Nat), u = .int .i64 j' ∧ j' ≤ j ∧ i' ≤ j' + 1 ∧ W = V.drewN m2 ∧ Hid (scanDown (fun x => !ltInt x y[a]!) y i' j' = scanDown (fun x => !ltInt x y[a]!) y i' j)) (fun u _ => (Go.Proofs.intOf u).toNat)
        case atStart => exact ⟨j, m1 + nq, rfl, Nat.le_refl _, hij', hw2, rfl⟩
        case round =>
          clear hw2
          obtain ⟨j', m2, rfl, hjj, hij2, hwd, hsd⟩ := hrel
          have rdw : ∀ t, t < d.size → wr.cell? ⟨blk, off + t, none⟩ = some (.int .u32 (g t)) := fun t ht => by rw [hwd]; exact rd t ht
          have hw2 := hide hwd
          clear hwd
          by_cases hle2 : i' ≤ j'
          · go_wp2_with fail
            go_big_quiet (first | (go_at_call 97; refine Calls.quiet_of_same (less_u _ _ _)))
            go_wp2
            · have ht : (!ltInt (g j') (g a)) = true := by assumption
              go_roundw
              case rel => exact ⟨j' - 1, m2 + nq, by go_num, by omega, by omega, by rw [hw2.out, World.drewN_drewN], (scanDown_go (fun x => !ltInt x y[a]!) y i' j' hle2 (by omega) (by rw [← hg.out a, ← hg.out j']; exact ht)).symm.trans hsd.out⟩
              case measure => simp [Go.Proofs.intOf]; omega
            · have ht : (!ltInt (g j') (g a)) = false := by assumption
              have hj2 := hide ((scanDown_end (fun x => !ltInt x y[a]!) y i' j' (Or.inr (by rw [← hg.out a, ← hg.out j']; exact ht))).symm.trans hsd.out)
              clear rdw hsd ht
              have hV3 : wr.drewN nq = V.drewN (m2 + nq) := by rw [hw2.out, World.drewN_drewN]
              generalize wr.drewN nq = V3 at hV3 ⊢
              have rd3 : ∀ t, t < d.size → V3.cell? ⟨blk, off + t, none⟩ = some (.int .u32 (g t)) := fun t ht => by rw [hV3]; exact rd t ht
              have fz3 : ∀ t, t < d.size → V3.frozen? ⟨blk, off + t, none⟩ = false := fun t ht => by rw [hV3]; exact fz t ht
              have HV3 := hide hV3
              clear hV3
              obtain ⟨v3, hy3⟩ := cell?_setCell_some (w := V3) (p := ⟨blk, off + i', none⟩) (x := .int .u32 (g j')) (q := ⟨blk, off + j', none⟩) (rd3 j' (by omega))
              have hlt3 := part_scans_lt ltInt a i j y (by omega) hi2.out hj2.out hle2
              go_wp2
              go_region
              all_goals go_wp2
              obtain ⟨R, hR⟩ : ∃ R, R = partLoop ltInt a (i' + 1) (j' - 1) (swp y i' j') := ⟨_, rfl⟩
              have HP : Hid (partition ltInt d a b pivot = (R.1, false, swp R.2 R.1 a)) := by rw [hR]; exact part_first_go ltInt d a b pivot HI.out HJ.out HY.out hi2.out hj2.out (by omega)
              have hw0 : ((V3.setCell ⟨blk, off + i', none⟩ (.int .u32 (g j'))).setCell ⟨blk, off + j', none⟩ (.int .u32 (g i'))).drew = (putRow U w blk off (swp y i' j')).drewN (n + (m2 + nq) + 1) := by
                rw [HV3.out, AV.out, World.drewN_drewN, hg.out i', hg.out j']
                exact swap_worldC U w blk off y _ i' j' (by omega) (by omega)
              have HR := hide hR
              clear hR rd fz rd3 fz3 hy3 HV3 AV hg hi2 hj2
              go_loopw [10, 11] (fun u v W => ∃ (i j n : Nat) (y : Array Int), u = .int .i64 i ∧ v = .int .i64 j ∧ a < i ∧ i ≤ j + 1 ∧ j < b ∧ y.size = d.size ∧ W = (putRow U w blk off y).drewN n ∧ partLoop ltInt a i j y = R) (fun u v _ => (Go.Proofs.intOf v).toNat + 1 - (Go.Proofs.intOf u).toNat)
              case atStart => exact ⟨i' + 1, j' - 1, _, swp y i' j', by go_num, by go_num, by omega, by omega, by omega, by rw [size_swp]; exact hs, hw0, HR.out.symm⟩
              case round =>
                clear hw0 HR
                obtain ⟨i, j, n, y, rfl, rfl, hai, hij, hjb, hs, hV, hE⟩ := hrel
                rename World => V
                have AE := hide hE
                clear hE
                have hK : Holds U V blk off y := by rw [hV]; exact holds_putRow U w blk off d y AH.out hs
                obtain ⟨g, hg'⟩ : ∃ g : Nat → Int, ∀ t, g t = y[t]! := ⟨fun t => y[t]!, fun _ => rfl⟩
                have rd : ∀ t, t < d.size → V.cell? ⟨blk, off + t, none⟩ = some (.int .u32 (g t)) := fun t ht => by rw [hg']; exact (hK t (by omega)).1
                have fz : ∀ t, t < d.size → V.frozen? ⟨blk, off + t, none⟩ = false := fun t ht => (hK t (by omega)).2
                have hg : Hid (∀ t, g t = y[t]!) := hg'
                have AV : Hid (V = (putRow U w blk off y).drewN n) := hV
                clear hg' hV hK
                go_wp2
                go_loopw [10] (fun u W => ∃ (i' m1 : Nat), u = .int .i64 i' ∧ i ≤ i' ∧ i' ≤ j + 1 ∧ W = V.drewN m1 ∧ Hid (scanUp (fun x => ltInt x y[a]!) y j i' = scanUp (fun x => ltInt x y[a]!) y j i)) (fun u _ => j + 1 - (Go.Proofs.intOf u).toNat)
                case atStart => exact ⟨i, 0, rfl, Nat.le_refl _, hij, rfl, rfl⟩
                case round =>
                  obtain ⟨i', m1, rfl, hii, hij', hwu, hsc⟩ := hrel
                  have rdw : ∀ t, t < d.size → wr.cell? ⟨blk, off + t, none⟩ = some (.int .u32 (g t)) := fun t ht => by rw [hwu]; exact rd t ht
                  have hw1 := hide hwu
                  clear hwu
                  by_cases hle : i' ≤ j
                  · go_wp2_with fail
                    go_big_quiet (first | (go_at_call 97; refine Calls.quiet_of_same (less_u _ _ _)))
                    go_wp2
                    · have ht : ltInt (g i') (g a) = true := by assumption
                      go_roundw
                      case rel => exact ⟨i' + 1, m1 + nq, by go_num, by omega, by omega, by rw [hw1.out, World.drewN_drewN], (scanUp_go (fun x => ltInt x y[a]!) y j i' hle (by rw [← hg.out a, ← hg.out i']; exact ht)).symm.trans hsc.out⟩
                      case measure => simp [Go.Proofs.intOf]; omega
                    · have ht : ltInt (g i') (g a) = false := by assumption
                      have hi2 := hide ((scanUp_end (fun x => ltInt x y[a]!) y j i' (Or.inr (by rw [← hg.out a, ← hg.out i']; exact ht))).symm.trans hsc.out)
                      clear ht
                      have hw2 : wr.drewN nq = V.drewN (m1 + nq) := by rw [hw1.out, World.drewN_drewN]
                      clear rdw hw1 hsc
                      go_loopw [11] (fun u W => ∃ (j' m2 : Nat), u = .int .i64 j' ∧ j' ≤ j ∧ i' ≤ j' + 1 ∧ W = V.drewN m2 ∧ Hid (scanDown (fun x => !ltInt x y[a]!) y i' j' = scanDown (fun x => !ltInt x y[a]!) y i' j)) (fun u _ => (Go.Proofs.intOf u).toNat)
                      case atStart => exact ⟨j, m1 + nq, rfl, Nat.le_refl _, hij', hw2, rfl⟩
                      case round =>
                        clear hw2
                        obtain ⟨j', m2, rfl, hjj, hij2, hwd, hsd⟩ := hrel
                        have rdw : ∀ t, t < d.size → wr.cell? ⟨blk, off + t, none⟩ = some (.int .u32 (g t)) := fun t ht => by rw [hwd]; exact rd t ht
                        have hw2 := hide hwd
                        clear hwd
                        by_cases hle2 : i' ≤ j'
                        · go_wp2_with fail
                          go_big_quiet (first | (go_at_call 97; refine Calls.quiet_of_same (less_u _ _ _)))
                          go_wp2
                          · have ht : (!ltInt (g j') (g a)) = true := by assumption
                            go_roundw
                            case rel => exact ⟨j' - 1, m2 + nq, by go_num, by omega, by omega, by rw [hw2.out, World.drewN_drewN], (scanDown_go (fun x => !ltInt x y[a]!) y i' j' hle2 (by omega) (by rw [← hg.out a, ← hg.out j']; exact ht)).symm.trans hsd.out⟩
                            case measure => simp [Go.Proofs.intOf]; omega
                          · have ht : (!ltInt (g j') (g a)) = false := by assumption
                            have hj2 := hide ((scanDown_end (fun x => !ltInt x y[a]!) y i' j' (Or.inr (by rw [← hg.out a, ← hg.out j']; exact ht))).symm.trans hsd.out)
                            clear rdw hsd ht
                            have hV3 : wr.drewN nq = V.drewN (m2 + nq) := by rw [hw2.out, World.drewN_drewN]
                            generalize wr.drewN nq = V3 at hV3 ⊢
                            have rd3 : ∀ t, t < d.size → V3.cell? ⟨blk, off + t, none⟩ = some (.int .u32 (g t)) := fun t ht => by rw [hV3]; exact rd t ht
                            have fz3 : ∀ t, t < d.size → V3.frozen? ⟨blk, off + t, none⟩ = false := fun t ht => by rw [hV3]; exact fz t ht
                            have HV3 := hide hV3
                            clear hV3
                            obtain ⟨v3, hy3⟩ := cell?_setCell_some (w := V3) (p := ⟨blk, off + i', none⟩) (x := .int .u32 (g j')) (q := ⟨blk, off + j', none⟩) (rd3 j' (by omega))
                            have hlt3 := part_scans_lt ltInt a i j y (by omega) hi2.out hj2.out hle2
                            go_wp2
                            go_region
                            all_goals go_wp2
                            all_goals go_roundw
                            case rel =>
                              refine ⟨i' + 1, j' - 1, n + (m2 + nq) + 1, swp y i' j', by go_num, by go_num, by omega, by omega, by omega, by rw [size_swp]; exact hs, ?_, ?_⟩
                              · rw [HV3.out, AV.out, World.drewN_drewN, hg.out i', hg.out j']
                                exact swap_worldC U w blk off y _ i' j' (by omega) (by omega)
                              · exact (part_go ltInt a i j y hi2.out hj2.out (by omega)).symm.trans AE.out
                            case measure => simp [Go.Proofs.intOf]; omega
                        · go_wp2_with fail
                          go_big_quiet (first | (go_at_call 97; refine Calls.quiet_of_same (less_u _ _ _)))
                          have hj2 := hide ((scanDown_end (fun x => !ltInt x y[a]!) y i' j' (Or.inl hle2)).symm.trans hsd.out)
                          clear rdw hsd
                          have hV3 : wr.drewN nq = V.drewN (m2 + nq) := by rw [hw2.out, World.drewN_drewN]
                          generalize wr.drewN nq = V3 at hV3 ⊢
                          have rd3 : ∀ t, t < d.size → V3.cell? ⟨blk, off + t, none⟩ = some (.int .u32 (g t)) := fun t ht => by rw [hV3]; exact rd t ht
                          have fz3 : ∀ t, t < d.size → V3.frozen? ⟨blk, off + t, none⟩ = false := fun t ht => by rw [hV3]; exact fz t ht
                          have HV3 := hide hV3
                          clear hV3
                          obtain ⟨v3, hy3⟩ := cell?_setCell_some (w := V3) (p := ⟨blk, off + j', none⟩) (x := .int .u32 (g a)) (q := ⟨blk, off + a, none⟩) (rd3 a (by omega))
                          have hlj : j' < d.size := by omega
                          go_wp2
                          go_region
                          all_goals go_wp2
                          all_goals go_ret2
                          have e : partition ltInt d a b pivot = (j', false, swp y j' a) := by rw [HP.out, ← (part_break ltInt a i j y hi2.out hj2.out (by omega)).symm.trans AE.out]
                          refine ⟨?_, n + (m2 + nq) + 1, ?_⟩
                          · rw [e]; rfl
                          · rw [e, HV3.out, AV.out, World.drewN_drewN, hg.out a, hg.out j']
                            exact swap_worldC U w blk off y _ j' a (by omega) (by omega)
                  · go_wp2_with fail
                    go_big_quiet (first | (go_at_call 97; refine Calls.quiet_of_same (less_u _ _ _)))
                    go_wp2
                    have hi2 := hide ((scanUp_end (fun x => ltInt x y[a]!) y j i' (Or.inl hle)).symm.trans hsc.out)
                    have hw2 : wr.drewN nq = V.drewN (m1 + nq) := by rw [hw1.out, World.drewN_drewN]
                    clear rdw hw1 hsc
                    go_loopw [11] (fun u W => ∃ (j' m2 : Nat), u = .int .i64 j' ∧ j' ≤ j ∧ i' ≤ j' + 1 ∧ W = V.drewN m2 ∧ Hid (scanDown (fun x => !ltInt x y[a]!) y i' j' = scanDown (fun x => !ltInt x y[a]!) y i' j)) (fun u _ => (Go.Proofs.intOf u).toNat)
                    case atStart => exact ⟨j, m1 + nq, rfl, Nat.le_refl _, hij', hw2, rfl⟩
                    case round =>
                      clear hw2
                      obtain ⟨j', m2, rfl, hjj, hij2, hwd, hsd⟩ := hrel
                      have rdw : ∀ t, t < d.size → wr.cell? ⟨blk, off + t, none⟩ = some (.int .u32 (g t)) := fun t ht => by rw [hwd]; exact rd t ht
                      have hw2 := hide hwd
                      clear hwd
                      by_cases hle2 : i' ≤ j'
                      · exfalso; omega
                      · go_wp2_with fail
                        go_big_quiet (first | (go_at_call 97; refine Calls.quiet_of_same (less_u _ _ _)))
                        have hj2 := hide ((scanDown_end (fun x => !ltInt x y[a]!) y i' j' (Or.inl hle2)).symm.trans hsd.out)
                        clear rdw hsd
                        have hV3 : wr.drewN nq = V.drewN (m2 + nq) := by rw [hw2.out, World.drewN_drewN]
                        generalize wr.drewN nq = V3 at hV3 ⊢
                        have rd3 : ∀ t, t < d.size → V3.cell? ⟨blk, off + t, none⟩ = some (.int .u32 (g t)) := fun t ht => by rw [hV3]; exact rd t ht
                        have fz3 : ∀ t, t < d.size → V3.frozen? ⟨blk, off + t, none⟩ = false := fun t ht => by rw [hV3]; exact fz t ht
                        have HV3 := hide hV3
                        clear hV3
                        obtain ⟨v3, hy3⟩ := cell?_setCell_some (w := V3) (p := ⟨blk, off + j', none⟩) (x := .int .u32 (g a)) (q := ⟨blk, off + a, none⟩) (rd3 a (by omega))
                        have hlj : j' < d.size := by omega
                        go_wp2
                        go_region
                        all_goals go_wp2
                        all_goals go_ret2
                        have e : partition ltInt d a b pivot = (j', false, swp y j' a) := by rw [HP.out, ← (part_break ltInt a i j y hi2.out hj2.out (by omega)).symm.trans AE.out]
                        refine ⟨?_, n + (m2 + nq) + 1, ?_⟩
                        · rw [e]; rfl
                        · rw [e, HV3.out, AV.out, World.drewN_drewN, hg.out a, hg.out j']
                          exact swap_worldC U w blk off y _ j' a (by omega) (by omega)
          · go_wp2_with fail
            go_big_quiet (first | (go_at_call 97; refine Calls.quiet_of_same (less_u _ _ _)))
            have hj2 := hide ((scanDown_end (fun x => !ltInt x y[a]!) y i' j' (Or.inl hle2)).symm.trans hsd.out)
            clear rdw hsd
            have hV3 : wr.drewN nq = V.drewN (m2 + nq) := by rw [hw2.out, World.drewN_drewN]
            generalize wr.drewN nq = V3 at hV3 ⊢
            have rd3 : ∀ t, t < d.size → V3.cell? ⟨blk, off + t, none⟩ = some (.int .u32 (g t)) := fun t ht => by rw [hV3]; exact rd t ht
            have fz3 : ∀ t, t < d.size → V3.frozen? ⟨blk, off + t, none⟩ = false := fun t ht => by rw [hV3]; exact fz t ht
            have HV3 := hide hV3
            clear hV3
            obtain ⟨v3, hy3⟩ := cell?_setCell_some (w := V3) (p := ⟨blk, off + j', none⟩) (x := .int .u32 (g a)) (q := ⟨blk, off + a, none⟩) (rd3 a (by omega))
            have hlj : j' < d.size := by omega
            go_wp2
            go_region
            all_goals go_wp2
            all_goals go_ret2
            have e : partition ltInt d a b pivot = (j', true, swp y j' a) := part_first_break ltInt d a b pivot HI.out HJ.out HY.out hi2.out hj2.out (by omega)
            refine ⟨?_, n + (m2 + nq) + 1, ?_⟩
            · rw [e]; rfl
            · rw [e, HV3.out, AV.out, World.drewN_drewN, hg.out a, hg.out j']
              exact swap_worldC U w blk off y _ j' a (by omega) (by omega)
    · go_wp2_with fail
      go_big_quiet (first | (go_at_call 97; refine Calls.quiet_of_same (less_u _ _ _)))
      go_wp2
      have hi2 := hide ((scanUp_end (fun x => ltInt x y[a]!) y j i' (Or.inl hle)).symm.trans hsc.out)
      have hw2 : wr.drewN nq = V.drewN (m1 + nq) := by rw [hw1.out, World.drewN_drewN]
      clear rdw hw1 hsc
      go_loopw [11] (fun u W => ∃ (j' m2 : Nat), u = .int .i64 j' ∧ j' ≤ j ∧ i' ≤ j' + 1 ∧ W = V.drewN m2 ∧ Hid (scanDown (fun x => !ltInt x y[a]!) y i' j' = scanDown (fun x => !ltInt x y[a]!) y i' j)) (fun u _ => (Go.Proofs.intOf u).toNat)
      case atStart => exact ⟨j, m1 + nq, rfl, Nat.le_refl _, hij', hw2, rfl⟩
      case round =>
        clear hw2
        obtain ⟨j', m2, rfl, hjj, hij2, hwd, hsd⟩ := hrel
        have rdw : ∀ t, t < d.size → wr.cell? ⟨blk, off + t, none⟩ = some (.int .u32 (g t)) := fun t ht => by rw [hwd]; exact rd t ht
        have hw2 := hide hwd
        clear hwd
        by_cases hle2 : i' ≤ j'
        · exfalso; omega
        · go_wp2_with fail
          go_big_quiet (first | (go_at_call 97; refine Calls.quiet_of_same (less_u _ _ _)))
          have hj2 := hide ((scanDown_end (fun x => !ltInt x y[a]!) y i' j' (Or.inl hle2)).symm.trans hsd.out)
          clear rdw hsd
          have hV3 : wr.drewN nq = V.drewN (m2 + nq) := by rw [hw2.out, World.drewN_drewN]
          generalize wr.drewN nq = V3 at hV3 ⊢
          have rd3 : ∀ t, t < d.size → V3.cell? ⟨blk, off + t, none⟩ = some (.int .u32 (g t)) := fun t ht => by rw [hV3]; exact rd t ht
          have fz3 : ∀ t, t < d.size → V3.frozen? ⟨blk, off + t, none⟩ = false := fun t ht => by rw [hV3]; exact fz t ht
          have HV3 := hide hV3
          clear hV3
          obtain ⟨v3, hy3⟩ := cell?_setCell_some (w := V3) (p := ⟨blk, off + j', none⟩) (x := .int .u32 (g a)) (q := ⟨blk, off + a, none⟩) (rd3 a (by omega))
          have hlj : j' < d.size := by omega
          go_wp2
          go_region
          all_goals go_wp2
          all_goals go_ret2
          have e : partition ltInt d a b pivot = (j', true, swp y j' a) := part_first_break ltInt d a b pivot HI.out HJ.out HY.out hi2.out hj2.out (by omega)
          refine ⟨?_, n + (m2 + nq) + 1, ?_⟩
          · rw [e]; rfl
          · rw [e, HV3.out, AV.out, World.drewN_drewN, hg.out a, hg.out j']
            exact swap_worldC U w blk off y _ j' a (by omega) (by omega)
end Go.Proofs.YtcffpmicencfpabGreat
namespace Go.Proofs.YtcffpmicencfpabGreat
open Go.RowKit Go.Sort

theorem next_u (rb ro X : Nat) (hX : X < 18446744073709551616) (w : World) (hc : w.cell? ⟨rb, ro, none⟩ = some (.int .u64 X)) (hf : w.frozen? ⟨rb, ro, none⟩ = false) :
    Calls Tryz.prog 105 #[.pointer (some ⟨rb, ro, none⟩)] w fun e w' => e = .returned (.int .u64 (xorNextN X : Nat)) ∧ w' = (w.setCell ⟨rb, ro, none⟩ (.int .u64 (xorNextN X : Nat))).drewN 3 := by
  obtain ⟨p, hp⟩ : ∃ p : Nat, p = X ^^^ (X * 8192 % 18446744073709551616) := ⟨_, rfl⟩
  obtain ⟨q, hq⟩ : ∃ q : Nat, q = p ^^^ (p / 128) := ⟨_, rfl⟩
  obtain ⟨s, hs⟩ : ∃ s : Nat, s = q ^^^ (q * 131072 % 18446744073709551616) := ⟨_, rfl⟩
  have lp : p < 18446744073709551616 := by rw [hp]; exact Nat.xor_lt_two_pow (n := 64) (by omega) (by omega)
  have lq : q < 18446744073709551616 := by rw [hq]; exact Nat.xor_lt_two_pow (n := 64) (by omega) (by omega)
  have e1 : bits .xor .u64 (X : Int) (IntKind.u64.wrap ((X : Int) * 8192)) = (p : Int) := by
    rw [IntKind.wrap_u64, show ((X : Int) * 8192 % 18446744073709551616) = ((X * 8192 % 18446744073709551616 : Nat) : Int) by omega, bits_xor_u64_nat _ _ hX (by omega), hp]
  have e2 : bits .xor .u64 (p : Int) ((p : Int) / 128) = (q : Int) := by
    rw [show ((p : Int) / 128) = ((p / 128 : Nat) : Int) by omega, bits_xor_u64_nat _ _ lp (by omega), hq]
  have e3 : bits .xor .u64 (q : Int) (IntKind.u64.wrap ((q : Int) * 131072)) = (s : Int) := by
    rw [IntKind.wrap_u64, show ((q : Int) * 131072 % 18446744073709551616) = ((q * 131072 % 18446744073709551616 : Nat) : Int) by omega, bits_xor_u64_nat _ _ lq (by omega), hs]
  have hv : xorNextN X = s := by unfold xorNextN; simp only []; rw [← hp, ← hq, ← hs]
  rw [hv]
  clear hp hq hs hv
  have hss : ∀ v v', (w.setCell ⟨rb, ro, none⟩ v).setCell ⟨rb, ro, none⟩ v' = w.setCell ⟨rb, ro, none⟩ v' := setCell_setCell w rb ro
  go_enter Tryz.func105, Tryz.ntmps105
  go_wp2
  go_region
  all_goals go_wp2
  all_goals go_region
  all_goals go_wp2
  all_goals go_region
  all_goals go_wp2
  go_ret
  exact ⟨rfl, rfl⟩

theorem len_u (n : Nat) (hn : n < 4611686018427387904) (w : World) : Calls Tryz.prog 82 #[.int .u64 (n : Int)] w fun e w' => e = .returned (.int .i64 (bitsLen n : Nat)) ∧ w' = w := by
  have h := Tryz.bits_Len (n : Int) w (by omega) (by omega)
  rwa [Int.toNat_natCast, bitLen_eq _ (by omega)] at h

theorem pow_u (n : Nat) (hn : n < 4611686018427387904) (w : World) : Calls Tryz.prog 104 #[.int .i64 n] w fun e w' => e = .returned (.int .u64 ((1 <<< bitsLen n : Nat) : Int)) ∧ w' = w := by
  have hk : bitsLen n ≤ 62 := (bitsLen_le_iff n 62).2 (by omega)
  have hp := wrap_two_pow (bitsLen n) hk
  go_enter Tryz.func104, Tryz.ntmps104
  go_wp2_with (go_at_call 82; refine (len_u n hn _).mono ?_; rintro e w' ⟨rfl, rfl⟩)
  go_ret
  exact ⟨rfl, rfl⟩

set_option maxHeartbeats 1000000 in
set_option maxRecDepth 100000 in
theorem break_go (blk off cap a L : Nat) (d : Array Int) (w : World) (hH : Holds U w blk off d) (hblk : blk < w.heap.size) (hb : a + L ≤ d.size) (hsz : d.size < 4611686018427387904) (h8 : 8 ≤ L) :
    Calls Tryz.prog 93 #[.slice (some ⟨blk, off, none⟩) d.size cap, .int .i64 a, .int .i64 ((a + L : Nat) : Int)] w fun e w' =>
      e = .returned (.tuple #[]) ∧ ∃ n os, w' = grow (putRow U (Sort.ahead w n) blk off (breakPatterns d a (a + L))) os := by
  rw [breakPatterns_eq d a L h8]
  obtain ⟨M, hM⟩ : ∃ M : Nat, M = 1 <<< bitsLen L := ⟨_, rfl⟩
  have hM1 : 1 ≤ M := by rw [hM, Nat.one_shiftLeft]; exact Nat.two_pow_pos _
  have hM2 : M ≤ 2 * L := by rw [hM, Nat.one_shiftLeft]; exact two_pow_bitsLen_le (by omega)
  have hNP : ∀ w, Calls Tryz.prog 104 #[.int .i64 (L : Int)] w fun e w' => e = .returned (.int .u64 (M : Int)) ∧ w' = w := by rw [hM]; exact fun w => pow_u L (by omega) w
  rw [← hM]
  clear hM
  have HH : Hid (Holds U w blk off d) := hH
  have HST : Hid (w.alloc (Obj.cells #[.int .u64 (L : Int)] 143) = grow (putRow U (Sort.ahead w 0) blk off d) #[Obj.cells #[.int .u64 ((UInt64.ofNat L).toNat : Int)] 143]) := by
    show _ = _
    rw [show Sort.ahead w 0 = w from rfl, putRow_self _ _ _ _ _ hH, alloc_eq_grow, show (UInt64.ofNat L).toNat = L from by simp; omega]
  clear hH
  go_enter Tryz.func93, Tryz.ntmps93
  go_wp2_with (first | (go_at_call 104; rw [show ((a : Int) + (L : Int) - (a : Int)) = (L : Int) by omega]; refine (hNP _).mono ?_; rintro e w' ⟨rfl, rfl⟩))
  go_loopw [9] (fun u W => ∃ (t n : Nat) (r : UInt64) (y : Array Int), u = .int .i64 ((a + L / 4 * 2 - 1 + t : Nat) : Int) ∧ t ≤ 3 ∧ y.size = d.size ∧
      W = grow (putRow U (Sort.ahead w n) blk off y) #[Obj.cells #[.int .u64 (r.toNat : Int)] 143] ∧
      bpRest a L M (a + L / 4 * 2 - 1) (3 - t) t (r, y) = bpRest a L M (a + L / 4 * 2 - 1) 3 0 (UInt64.ofNat L, d)) (fun u _ => a + L / 4 * 2 + 3 - (Go.Proofs.intOf u).toNat)
  case atStart => exact ⟨0, 0, UInt64.ofNat L, d, by congr 1; omega, by omega, rfl, HST.out, rfl⟩
  case round =>
    obtain ⟨t, n, r, y, rfl, ht, hy, hW, hR⟩ := hrel
    obtain ⟨R, hRr⟩ : ∃ R : Nat, R = r.toNat := ⟨_, rfl⟩
    have lR : R < 18446744073709551616 := by rw [hRr]; exact r.toNat_lt
    obtain ⟨R', hR'⟩ : ∃ R' : Nat, R' = xorNextN R := ⟨_, rfl⟩
    have lR' : R' < 18446744073709551616 := by rw [hR']; exact xorNextN_lt R lR
    obtain ⟨O, hO⟩ : ∃ O : Nat, O = R' &&& (M - 1) := ⟨_, rfl⟩
    have lO : O ≤ M - 1 := by rw [hO]; exact Nat.and_le_right
    have eAnd : bits .and .u64 (R' : Int) ((M : Int) - 1) = (O : Int) := by
      rw [show ((M : Int) - 1) = ((M - 1 : Nat) : Int) by omega, bits_and_u64_nat _ _ lR' (by omega), hO]
    obtain ⟨g, hg⟩ : ∃ g : Nat → Int, ∀ x, g x = y[x]! := ⟨fun x => y[x]!, fun _ => rfl⟩
    have hz : (putRow U (Sort.ahead w n) blk off y).heap.size = w.heap.size := by simp
    have rd : ∀ x, x < d.size → wr.cell? ⟨blk, off + x, none⟩ = some (.int .u32 (g x)) := fun x hx => by
      rw [hW, cell?_grow _ _ _ (by rw [hz]; exact hblk), hg]; exact cell?_putRow _ _ _ _ d y (holds_ahead _ _ _ _ _ _ HH.out) hy x (by omega)
    have fz : ∀ x, x < d.size → wr.frozen? ⟨blk, off + x, none⟩ = false := fun x hx => by
      rw [hW, frozen?_grow _ _ _ (by rw [hz]; exact hblk), frozen?_putRow]; exact ((holds_ahead _ _ n _ _ _ HH.out) x hx).2
    have hcB : wr.cell? ⟨w.heap.size, 0, none⟩ = some (.int .u64 (R : Int)) := by rw [hW, hRr, ← hz]; exact grow_one_cell _ _ _
    have hfB : wr.frozen? ⟨w.heap.size, 0, none⟩ = false := by rw [hW, ← hz]; exact grow_one_frozen _ _ _
    have hNext : Calls Tryz.prog 105 #[.pointer (some ⟨w.heap.size, 0, none⟩)] wr fun e w' => e = .returned (.int .u64 (R' : Int)) ∧ w' = (wr.setCell ⟨w.heap.size, 0, none⟩ (.int .u64 (R' : Int))).drewN 3 := by
      rw [hR']; exact next_u _ _ R lR wr hcB hfB
    have HW := hide hW
    have HG : Hid (∀ x, g x = y[x]!) := hg
    have HR := hide hR
    have HN : Hid (R' = (xorNext r).toNat ∧ O = (xorNext r).toNat &&& (M - 1)) := by
      have e : R' = (xorNext r).toNat := by rw [hR', hRr, xorNext_toNat]
      exact ⟨e, by rw [hO, e]⟩
    clear hW hg hR hRr hR' hO
    go_wp2_with (first | (go_at_call 105; refine hNext.mono ?_; rintro e w' ⟨rfl, rfl⟩))
    · have hLO : L ≤ O := by omega
      by_cases hEq : a + L / 4 * 2 - 1 + t = a + (O - L)
      all_goals
        go_region
        all_goals go_wp2
        go_roundw
        case rel =>
          refine ⟨t + 1, n + 4, xorNext r, swp y (a + L / 4 * 2 - 1 + t) (a + (O - L)), by first | rfl | (congr 1 <;> omega), by omega, by rw [size_swp]; exact hy, ?_, ?_⟩
          · (try rw [hEq])
            rw [HW.out, HN.out.1]
            simp only [HG.out]
            exact step_world U w n 4 blk off y _ _ hblk (by omega) (by omega) _ _ _
          · rw [← HR.out, bp_step a L M _ t r y (O - L) (by omega) (by rw [← HN.out.2, if_pos (by omega)])]
        case measure => simp [Go.Proofs.intOf]; omega
    · have hLO : ¬ L ≤ O := by omega
      by_cases hEq : a + L / 4 * 2 - 1 + t = a + O
      all_goals
        go_region
        all_goals go_wp2
        go_roundw
        case rel =>
          refine ⟨t + 1, n + 4, xorNext r, swp y (a + L / 4 * 2 - 1 + t) (a + O), by first | rfl | (congr 1 <;> omega), by omega, by rw [size_swp]; exact hy, ?_, ?_⟩
          · (try rw [hEq])
            rw [HW.out, HN.out.1]
            simp only [HG.out]
            exact step_world U w n 4 blk off y _ _ hblk (by omega) (by omega) _ _ _
          · rw [← HR.out, bp_step a L M _ t r y O (by omega) (by rw [← HN.out.2, if_neg (by omega)])]
        case measure => simp [Go.Proofs.intOf]; omega
    · obtain rfl : t = 3 := by omega
      go_end0
      exact ⟨rfl, n, _, by rw [← HR.out, HW.out]; rfl⟩

theorem break_u (blk off cap a b : Nat) (d : Array Int) (w : World) (hH : Holds U w blk off d) (hblk : blk < w.heap.size) (hab : a ≤ b) (hb : b ≤ d.size) (hsz : d.size < 4611686018427387904) :
    Calls Tryz.prog 93 #[.slice (some ⟨blk, off, none⟩) d.size cap, .int .i64 a, .int .i64 b] w fun e w' =>
      e = .returned (.tuple #[]) ∧ ∃ n os, w' = grow (putRow U (Sort.ahead w n) blk off (breakPatterns d a b)) os := by
  obtain ⟨L, rfl⟩ : ∃ L, b = a + L := ⟨b - a, by omega⟩
  by_cases h8 : 8 ≤ L
  · exact break_go blk off cap a L d w hH hblk hb hsz h8
  · have hv : breakPatterns d a (a + L) = d := by unfold breakPatterns; simp only [Nat.add_sub_cancel_left]; rw [if_neg h8]
    rw [hv]
    have HST : Hid (w = grow (putRow U (Sort.ahead w 0) blk off d) #[]) := by
      show _ = _
      rw [grow_empty, show Sort.ahead w 0 = w from rfl, putRow_self _ _ _ _ _ hH]
    clear hH
    go_enter Tryz.func93, Tryz.ntmps93
    go_wp2
    go_end0
    exact ⟨rfl, 0, #[], HST.out⟩
end Go.Proofs.YtcffpmicencfpabGreat
