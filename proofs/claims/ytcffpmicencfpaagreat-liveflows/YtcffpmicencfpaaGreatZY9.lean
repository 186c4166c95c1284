/-
  Contracts of the document's layer 9: all, same, right.
  What the document's Find of layer 9 holds while it goes round: two lists of words, a third one that they were; half a round.
-/
import Derived.Deep.QuietTactic
import Derived.BigQuiet
import Derived.Test.YtcffpmicencfpaaGreatZD3
import Derived.Test.YtcffpmicencfpaaGreatZD6
import Derived.Test.YtcffpmicencfpaaGreatZY4
import Derived.Test.YtcffpmicencfpaaGreatZY7
namespace Go.Proofs.YtcffpmicencfpaaGreat
open Go.RowKit Go.Lib Go.Sort Ip Bl Lv Pm
set_option linter.unusedSimpArgs false
set_option linter.unusedVariables false

set_option maxHeartbeats 4000000 in
set_option maxRecDepth 100000 in
theorem rsame9_any (la lb : List Nat) (a b : Value) (hl : la.length ≤ 1000000) (hll : la.length = lb.length) (w : World) (hSa : SlW w a la) (hSb : SlW w b lb) :
    Calls Tryz.prog 24 #[a, b] w fun e w' => e = .returned (.bool (decide (la = lb))) ∧ Below w.heap.size w w' := by
  obtain ⟨p, c, rfl, _⟩ := hSa.len
  obtain ⟨p', c', rfl, _⟩ := hSb.len
  have HA := hideE hSa
  have HB := hideE hSb
  clear hSa hSb
  obtain ⟨nn, hnn⟩ : ∃ n, la.length = n := ⟨_, rfl⟩
  have hmm : lb.length = nn := by omega
  rw [hnn] at HA hl
  rw [hmm] at HB
  rw [hnn, hmm]
  have HN := hideE hnn
  have HM := hideE hmm
  clear hll hnn hmm
  go_enter Tryz.func24, Tryz.ntmps24
  go_wp2_with fail
  go_loopg [5] nn (fun q i wr => ∃ k : Nat, k + q = nn ∧ i = .int .i64 (k : Int) ∧ la.take k = lb.take k ∧ Below w.heap.size w wr)
  case atStart => exact ⟨0, by omega, rfl, by simp, Below.refl _ _⟩
  case round =>
    obtain ⟨k, hkq, rfl, htk, hT⟩ := hrel
    have HT := hideE htk
    clear htk
    cases gk with
    | zero =>
      obtain rfl : k = nn := by omega
      have hk : ¬ ((k : Int) < (k : Int)) := by omega
      have HTw := hideE hT
      clear hT
      go_wp2_with fail
      go_ret
      exact ⟨congrArg (fun t => Ending.returned (.bool t)) (decide_eq_true (by
        have := HT.out
        rwa [List.take_of_length_le (by rw [HN.out]; omega), List.take_of_length_le (by rw [HM.out]; omega)] at this)).symm, HTw.out⟩
    | succ q =>
      have hk : ((k : Int) < (nn : Int)) := by omega
      have hk0 : (0 : Int) ≤ (k : Int) := by omega
      have hwk : IntKind.i64.wrap ((k : Int) + 1) = (k : Int) + 1 := wrE (by omega) (by omega)
      obtain ⟨u, hu⟩ : ∃ u, la[k]? = some u := ⟨la[k]'(by rw [HN.out]; omega), List.getElem?_eq_getElem (by rw [HN.out]; omega)⟩
      obtain ⟨v, hv⟩ : ∃ v, lb[k]? = some v := ⟨lb[k]'(by rw [HM.out]; omega), List.getElem?_eq_getElem (by rw [HM.out]; omega)⟩
      obtain ⟨g, o, rfl, a3⟩ := (HA.out.belowB hT (by exact Nat.le_refl _)).at hu
      obtain ⟨g', o', rfl, c3⟩ := (HB.out.belowB hT (by exact Nat.le_refl _)).at hv
      have Hu := hideE hu
      have Hv := hideE hv
      have HTw := hideE hT
      clear hu hv hT
      by_cases huv : u = v
      · subst huv
        go_wp2_with fail
        go_quiet (fail)
        go_wp2_with fail
        go_roundg q
        case measure => omega
        case rel => exact ⟨k + 1, by omega, by simp, take_stepN HT.out Hu.out Hv.out, HTw.out.trans ((drew_low _ _ _).mono (HTw.out.size))⟩
      · have hne : ((u : Int) != (v : Int)) = true := bne_iff_ne.2 (by omega)
        have HV := hideE huv
        clear huv
        go_wp2_with fail
        go_quiet (fail)
        go_wp2_with fail
        go_ret
        exact ⟨congrArg (fun t => Ending.returned (.bool t)) (decide_eq_false (fun e => HV.out (by have := Hu.out; rw [e, Hv.out] at this; injection this with this; exact this.symm))).symm, HTw.out.trans ((drew_low _ _ _).mono (HTw.out.size))⟩
theorem loose_away (op rd rs1 rs2 imm : Int) : looseX ⟨op, rd, rs1, rs2, imm⟩ true = true := by unfold looseX; rfl
theorem loose_not (op rd rs1 rs2 imm : Int) : looseX ⟨op, rd, rs1, rs2, imm⟩ false = (decide (op = 46) || ((decide (op = 2) || decide (op = 3)) && decide (rd ≠ 0))) := by unfold looseX; rfl
set_option maxHeartbeats 4000000 in
set_option maxRecDepth 100000 in
theorem rall_any (op rd rs1 rs2 imm : Int) (aw : Bool) (w : World) : Calls Tryz.prog 22 #[.agg #[.int .i64 op, .int .i64 rd, .int .i64 rs1, .int .i64 rs2, .int .i64 imm], .bool aw] w fun e w' => e = .returned (.bool (looseX ⟨op, rd, rs1, rs2, imm⟩ aw)) ∧ Below w.heap.size w w' := by
  have HB := hideE ((Below.refl _ w).alloc (Nat.le_refl _) (.cells #[.int .i64 op, .int .i64 rd, .int .i64 rs1, .int .i64 rs2, .int .i64 imm] 47))
  have hbx := inst_box w op rd rs1 rs2 imm
  obtain ⟨c0, c1, c2, c3, c4⟩ := five hbx
  clear hbx
  cases aw
  · have HL := hideE (loose_not op rd rs1 rs2 imm)
    by_cases h46 : op = 46
    · have HT : Hid (looseX ⟨op, rd, rs1, rs2, imm⟩ false = true) := by show _ = _; rw [HL.out, h46]; rfl
      have q46 : (op == 46) = true := by rw [h46]; rfl
      clear h46
      go_enter Tryz.func22, Tryz.ntmps22
      go_wp2_with fail
      go_ret
      exact ⟨retb HT.out.symm, HB.out⟩
    · have q46 : (op == 46) = false := beq_eq_false_iff_ne.2 h46
      by_cases h2 : op = 2
      · have q2 : (op == 2) = true := by rw [h2]; rfl
        by_cases hr : rd = 0
        · have qr : (rd != 0) = false := by rw [hr]; rfl
          have HT : Hid (looseX ⟨op, rd, rs1, rs2, imm⟩ false = false) := by show _ = _; rw [HL.out, h2, hr]; rfl
          clear h46 h2 hr
          go_enter Tryz.func22, Tryz.ntmps22
          go_wp2_with fail
          go_ret
          exact ⟨retb HT.out.symm, HB.out⟩
        · have qr : (rd != 0) = true := bne_iff_ne.2 hr
          have HT : Hid (looseX ⟨op, rd, rs1, rs2, imm⟩ false = true) := by show _ = _; rw [HL.out, h2, decide_eq_true hr]; rfl
          clear h46 h2 hr
          go_enter Tryz.func22, Tryz.ntmps22
          go_wp2_with fail
          go_ret
          exact ⟨retb HT.out.symm, HB.out⟩
      · have q2 : (op == 2) = false := beq_eq_false_iff_ne.2 h2
        by_cases h3 : op = 3
        · have q3 : (op == 3) = true := by rw [h3]; rfl
          by_cases hr : rd = 0
          · have qr : (rd != 0) = false := by rw [hr]; rfl
            have HT : Hid (looseX ⟨op, rd, rs1, rs2, imm⟩ false = false) := by show _ = _; rw [HL.out, h3, hr]; rfl
            clear h46 h2 h3 hr
            go_enter Tryz.func22, Tryz.ntmps22
            go_wp2_with fail
            go_ret
            exact ⟨retb HT.out.symm, HB.out⟩
          · have qr : (rd != 0) = true := bne_iff_ne.2 hr
            have HT : Hid (looseX ⟨op, rd, rs1, rs2, imm⟩ false = true) := by show _ = _; rw [HL.out, h3, decide_eq_true hr]; rfl
            clear h46 h2 h3 hr
            go_enter Tryz.func22, Tryz.ntmps22
            go_wp2_with fail
            go_ret
            exact ⟨retb HT.out.symm, HB.out⟩
        · have q3 : (op == 3) = false := beq_eq_false_iff_ne.2 h3
          have HT : Hid (looseX ⟨op, rd, rs1, rs2, imm⟩ false = false) := by show _ = _; rw [HL.out, decide_eq_false h46, decide_eq_false h2, decide_eq_false h3]; rfl
          clear h46 h2 h3
          go_enter Tryz.func22, Tryz.ntmps22
          go_wp2_with fail
          go_ret
          exact ⟨retb HT.out.symm, HB.out⟩
  · have HT := hideE (loose_away op rd rs1 rs2 imm)
    go_enter Tryz.func22, Tryz.ntmps22
    go_wp2_with fail
    go_ret
    exact ⟨retb HT.out.symm, HB.out⟩
/-- Is an answer of Find the blocks themselves? -/
theorem right_iff {i : Img} {l m : List (Nat × Nat)} {er : Nat} (h : AnsF (txI i) (seedsI i (l.map Prod.fst)) er m) : rightP i l ↔ er = 0 ∧ l = m := by
  constructor
  · intro hr
    have := h.same hr (fun _ => Iff.rfl)
    exact ⟨this.1, this.2.symm⟩
  · rintro ⟨rfl, rfl⟩
    exact h
set_option maxHeartbeats 8000000 in
set_option maxRecDepth 100000 in
theorem rright9_any (i : Img) (v vl : Value) (l : List (Nat × Nat)) (hl : l.length ≤ 1000) (hlt : ∀ b ∈ l, b.1 < 4294967296) (hi : i.ok) (w : World) (hS : SlW w v i.words) (hB : SlB w vl l) :
    Calls Tryz.prog 21 #[imgV i v, vl] w fun e W' => ∃ R : Bool, e = .returned (.bool R) ∧ (R = true ↔ rightP i l) ∧ Below w.heap.size w W' := by
  obtain ⟨p0, q0, rfl, _⟩ := hS.len
  obtain ⟨pb, qb, rfl⟩ := hB.len
  obtain ⟨n1, hn1⟩ : ∃ n, l.length = n := ⟨_, rfl⟩
  rw [hn1] at hB hl
  rw [hn1]
  have HN1 := hideE hn1
  have hib := heap_alloc_new w (.cells (imgC i (.slice p0 i.words.length q0)) 25)
  have b0 : Below w.heap.size w (w.alloc (.cells (imgC i (.slice p0 i.words.length q0)) 25)) := (Below.refl _ w).alloc (Nat.le_refl _) _
  have HS := hideE hS
  have HSL := hideE hB
  have HI := hideE hi
  have HLT := hideE hlt
  have HIB := hideE hib
  have HB0 := hideE b0
  have ho5 := owns_empty (w.alloc (.cells (imgC i (.slice p0 i.words.length q0)) 25)) (w.heap.size + 1) (by simp)
  rw [World.size_alloc] at ho5
  have HO5 := hideE ho5
  have HL5 := hideE ((Below.refl (w.heap.size + 1) (w.alloc (.cells (imgC i (.slice p0 i.words.length q0)) 25))).alloc (by simp) (.cells #[] 22))
  clear hS hB hi hlt hn1 hib b0 ho5
  simp only [imgV]
  go_enter Tryz.func21, Tryz.ntmps21
  go_upto_region 3 with fail
  go_loopg [5, 6] n1 (fun q s5 j W => ∃ (k : Nat) (pb : Option Addr) (cb : Nat), k + q = n1 ∧ s5 = .slice pb k cb ∧ j = .int .i64 (k : Int) ∧ W.ownsRow (w.heap.size + 1) 22 1 (.slice pb k cb) k (((l.take k).map Prod.fst).map wordV) ∧ Below (w.heap.size + 1) (w.alloc (.cells (imgC i (.slice p0 i.words.length q0)) 25)) W)
  case atStart => exact ⟨0, _, _, by omega, rfl, rfl, HO5.out, HL5.out⟩
  case round =>
    obtain ⟨k, pb2, cb, hkq, rfl, rfl, hrow, hT⟩ := hrel
    have hTw := HB0.out.trans (hT.mono (Nat.le_succ _))
    cases gk with
    | zero =>
      obtain rfl : k = n1 := by omega
      have hk : ¬ ((k : Int) < (k : Int)) := by omega
      rw [List.take_of_length_le (by rw [HN1.out]; exact Nat.le_refl _)] at hrow
      obtain ⟨bl, hbl⟩ : ∃ b, l.map Prod.fst = b := ⟨_, rfl⟩
      rw [hbl] at hrow
      have hbk : bl.length = k := by rw [← hbl, List.length_map, HN1.out]
      have hblt : ∀ a ∈ bl, a < 4294967296 := fun a ha => by
        rw [← hbl] at ha
        obtain ⟨b, hb, rfl⟩ := List.mem_map.1 ha
        exact HLT.out b hb
      have hib := keptN (hT.mono (by simp)) HIB.out
      have HRF := hideE (rfind_any i (.slice p0 i.words.length q0) (.slice pb2 k cb) bl hblt (by omega) HI.out wr (HS.out.below hTw) (slwU_own hrow hbk))
      have HSB := hideE (HSL.out.below hTw)
      have HTW := hideE hTw
      have HBL := hideE hbl
      clear hrow hT hTw hbl hbk hblt HO5 HL5
      simp only [imgV] at HRF
      go_upto_region 7 with (first
        | (refine wpList_load_row rfl 25 _ rfl w.heap.size rfl _ _ _ _ hib Tryz.underlying25 rfl (by kernel_rfl) ?_)
        | (go_at_call 6; refine HRF.out.mono ?_; rintro e wb ⟨er, m, hans, u1, rfl, hrm, hbm⟩; obtain ⟨pm, cm, rfl⟩ := own_slice' hrm))
      have HRI : Hid (rightP i l ↔ er = 0 ∧ l = m) := right_iff (by rw [HBL.out]; exact hans)
      have HL9 := hideE (HTW.out.trans (hbm.mono HTW.out.size))
      have HSM := hideE (rsame8_any l m (.slice pb k qb) (.slice pm m.length cm) (by rw [HN1.out]; omega) wb (HSB.out.below hbm) (slb_of_owns hrm))
      clear hib HRF HSB HTW hans hrm hbm
      by_cases h0 : er = 0
      · have hz : ((er : Int) == 0) = true := by rw [h0]; rfl
        have HE := hideE h0
        clear h0
        go_wp2_with (go_at_call 36; refine HSM.out.mono ?_; rintro e wc ⟨rfl, hbc⟩)
        go_ret
        exact ⟨_, rfl, by rw [HRI.out]; simp [HE.out], HL9.out.trans (hbc.mono HL9.out.size)⟩
      · have hz : ((er : Int) == 0) = false := beq_eq_false_iff_ne.2 (by omega)
        have HE := hideE h0
        clear h0
        go_wp2_with fail
        go_ret
        exact ⟨false, rfl, by rw [HRI.out]; exact ⟨fun e => (by cases e), fun e => absurd e.1 HE.out⟩, HL9.out⟩
    | succ q =>
      have hk : ((k : Int) < (n1 : Int)) := by omega
      have hk0 : (0 : Int) ≤ (k : Int) := by omega
      have hwk : IntKind.i64.wrap ((k : Int) + 1) = (k : Int) + 1 := wrE (by omega) (by omega)
      obtain ⟨u, hu⟩ : ∃ u, l[k]? = some u := ⟨l[k]'(by rw [HN1.out]; omega), List.getElem?_eq_getElem (by rw [HN1.out]; omega)⟩
      obtain ⟨g, rfl, a3, a4⟩ := (HSL.out.below hTw).at hu
      obtain ⟨v1, v2⟩ := u
      simp only at a3 a4
      have hszT := hT.size
      rw [World.size_alloc] at hszT
      have hal := (Below.refl wr.heap.size wr).alloc (Nat.le_refl _) (.cells #[.int .u32 (v1 : Int)] 22)
      have HOO := hideE (ownU_below hrow hal)
      have HSS := hideE (slw_lit wr #[.int .u32 (v1 : Int)] [v1] rfl)
      have HLL := hideE (hT.trans (hal.mono hszT))
      have HBB : Hid (k + [v1].length ≤ 1000000) := hideE (by simp; omega)
      have HSZ : Hid (w.heap.size + 1 ≤ (wr.alloc (.cells #[.int .u32 (v1 : Int)] 22)).heap.size) := hideE (by rw [World.size_alloc]; omega)
      have HU := hideE hu
      clear hrow hT hTw hal a4 hu
      go_upto_region 4 with (refine wpList_append_words rfl _ _ rfl (w.heap.size + 1) _ k (((l.take k).map Prod.fst).map wordV) rfl HOO.out _ [v1] rfl HSS.out (.inr ⟨_, _, _, rfl⟩) HBB.out HSZ.out ?_; intro va w6 hown hgr)
      have hr := ownU_words (l := (l.take (k + 1)).map Prod.fst) hown (k + 1) rfl (by rw [List.take_add_one, HU.out, List.map_append, List.map_append]; rfl)
      have hb := HLL.out.grown hgr HSZ.out (ownU_lo HOO.out)
      obtain ⟨pc, cc, rfl⟩ := own_slice' hr
      clear hown hgr a3
      have HR := hideE hr
      clear hr
      go_wp2_with fail
      go_roundg q
      case measure => omega
      case rel => exact ⟨k + 1, pc, cc, by omega, rfl, by simp, HR.out, hb⟩
end Go.Proofs.YtcffpmicencfpaaGreat
namespace Go.Proofs.YtcffpmicencfpaaGreat
open Go.RowKit Go.Lib Go.Sort Ip Bl Lv Pm
set_option linter.unusedSimpArgs false
set_option linter.unusedVariables false

/-! ### plain -/
structure HalfA (F : Fw) (A : List (BitVec 32)) (k : Nat) (A' : List (BitVec 32)) : Prop where
  len : A'.length = F.n
  get : ∀ j, A'.getD j (BitVec.ofNat 32 0) = if j < k then ahdF F A j else A.getD j (BitVec.ofNat 32 0)
structure HalfB (F : Fw) (A : List (BitVec 32)) (k : Nat) (B' : List (BitVec 32)) : Prop where
  len : B'.length = F.n
  get : ∀ j, j < k → B'.getD j (BitVec.ofNat 32 0) = behF F A j
theorem HalfA.start {F : Fw} {A : List (BitVec 32)} (h : A.length = F.n) : HalfA F A 0 A := ⟨h, fun j => by rw [if_neg (Nat.not_lt_zero j)]⟩
theorem HalfB.start {F : Fw} {A B : List (BitVec 32)} (h : B.length = F.n) : HalfB F A 0 B := ⟨h, fun j hj => absurd hj (Nat.not_lt_zero j)⟩
theorem HalfA.step {F : Fw} {A A' : List (BitVec 32)} {k : Nat} (h : HalfA F A k A') (hk : k < F.n) : HalfA F A (k + 1) (A'.set k (ahdF F A k)) := by
  refine ⟨by rw [List.length_set]; exact h.len, fun j => ?_⟩
  rw [set_getD, h.get j]
  by_cases e : k = j
  · subst e
    rw [if_pos ⟨rfl, by rw [h.len]; exact hk⟩, if_pos (Nat.lt_succ_self k)]
  · rw [if_neg (fun c => e c.1)]
    by_cases e2 : j < k
    · rw [if_pos e2, if_pos (by omega)]
    · rw [if_neg e2, if_neg (by omega)]
theorem HalfB.step {F : Fw} {A B' : List (BitVec 32)} {k : Nat} (h : HalfB F A k B') (hk : k < F.n) : HalfB F A (k + 1) (B'.set k (behF F A k)) := by
  refine ⟨by rw [List.length_set]; exact h.len, fun j hj => ?_⟩
  rw [set_getD]
  by_cases e : k = j
  · subst e
    rw [if_pos ⟨rfl, by rw [h.len]; exact hk⟩]
  · rw [if_neg (fun c => e c.1)]
    exact h.get j (by omega)
theorem HalfA.end_ {F : Fw} {A A' : List (BitVec 32)} (h : HalfA F A F.n A') (hA : A.length = F.n) : A' = roundF F A := by
  refine list_getD_ext (h.len.trans (round_len F A).symm) fun j => ?_
  rw [h.get j, round_getD]
  by_cases e : j < F.n
  · rw [if_pos e, if_pos e]
  · rw [if_neg e, if_neg e, getD_none (by omega)]
theorem HalfB.end_ {F : Fw} {A B' : List (BitVec 32)} (h : HalfB F A F.n B') : B' = behL F A := by
  refine list_getD_ext (h.len.trans (by unfold behL; simp)) fun j => ?_
  unfold behL
  rw [map_getD]
  by_cases e : j < F.n
  · rw [if_pos e, h.get j e]
  · rw [if_neg e, getD_none (by rw [h.len]; omega)]
def orK (A : List (BitVec 32)) (N : List Nat) (t : Nat) : BitVec 32 := orL A (N.take t)
theorem orK_zero (A : List (BitVec 32)) (N : List Nat) : orK A N 0 = (BitVec.ofNat 32 0) := rfl
theorem orK_succ (A : List (BitVec 32)) (N : List Nat) (t : Nat) {u : Nat} (h : N[t]? = some u) : orK A N (t + 1) = orK A N t ||| A.getD u (BitVec.ofNat 32 0) := by
  unfold orK orL
  rw [List.take_add_one, h, Option.toList_some, List.foldl_append]; rfl
theorem orK_end (A : List (BitVec 32)) (N : List Nat) : orK A N N.length = orL A N := by unfold orK; rw [List.take_length]
theorem natV_set (A : List (BitVec 32)) (k : Nat) (z : BitVec 32) : ((natL A).map wordV).set k (.int .u32 (z.toNat : Int)) = (natL (A.set k z)).map wordV := by
  unfold natL
  rw [List.map_set, List.map_set]; rfl
theorem natV_get (A : List (BitVec 32)) {k : Nat} (h : k < A.length) : ((natL A).map wordV)[k]? = some (.int .u32 ((A.getD k (BitVec.ofNat 32 0)).toNat : Int)) := by
  unfold natL
  rw [List.getElem?_map, List.getElem?_map, List.getD_eq_getElem?_getD, List.getElem?_eq_getElem h]; rfl

/-! ### memory -/
structure Q2 (w : World) (i : Img) (u va vb : Value) (n : Nat) (A B : List (BitVec 32)) (W : World) : Prop where
  ib : W.heap[w.heap.size]? = some (.cells (imgC i u) 25 (0, 0))
  ra : W.ownsRow (w.heap.size + 1) 22 1 va n ((natL A).map wordV)
  rb : W.ownsRow (w.heap.size + 1) 22 1 vb n ((natL B).map wordV)
  ab : ∀ k, va.ownBlock = some k → vb.ownBlock ≠ some k
  low : Below w.heap.size w W
  big : w.heap.size + 1 ≤ W.heap.size
variable {w : World} {i : Img} {u va vb vw : Value} {n : Nat} {A B C : List (BitVec 32)} {W W' : World}
theorem kept_below {B0 n : Nat} {t : TypeId} {k : Nat} {v : Value} {xs : List Value} (h : W.ownsRow B0 t k v n xs) (hb : Below W.heap.size W W') : W'.ownsRow B0 t k v n xs := h.kept (grown_of_below hb) (by cases v.ownBlock <;> simp)
theorem Q2.ext (h : Q2 w i u va vb n A B W) (hb : Below W.heap.size W W') : Q2 w i u va vb n A B W' :=
  ⟨keptN hb h.ib, kept_below h.ra hb, kept_below h.rb hb, h.ab, h.low.trans (hb.mono h.low.size), Nat.le_trans h.big hb.size⟩
theorem Q2.lenA (h : Q2 w i u va vb n A B W) : A.length = n := by
  have := h.ra.1
  rw [List.length_map, natL_len] at this
  omega
theorem Q2.lenB (h : Q2 w i u va vb n A B W) : B.length = n := by
  have := h.rb.1
  rw [List.length_map, natL_len] at this
  omega
theorem Q2.setA {g c : Nat} (h : Q2 w i u (.slice (some ⟨g, 0, none⟩) n c) vb n A B W) (k : Nat) (z : BitVec 32) : Q2 w i u (.slice (some ⟨g, 0, none⟩) n c) vb n (A.set k z) B (W.setCell ⟨g, k, none⟩ (.int .u32 (z.toNat : Int))) := by
  have hlt := h.ra.lt g rfl
  obtain ⟨h1, h2⟩ := h.ra.stored k (.int .u32 (z.toNat : Int))
  rw [natV_set] at h1
  exact ⟨(Below.heap_setCell _ _ _ _ (by show w.heap.size ≠ g; omega)).trans h.ib, h1, h.rb.kept h2 (.inr (h.ab g rfl)), h.ab, h.low.grown h2 h.low.size (fun k e => by cases e; omega), by have := h.big; simpa using this⟩
theorem Q2.setB {g c : Nat} (h : Q2 w i u va (.slice (some ⟨g, 0, none⟩) n c) n A B W) (k : Nat) (z : BitVec 32) : Q2 w i u va (.slice (some ⟨g, 0, none⟩) n c) n A (B.set k z) (W.setCell ⟨g, k, none⟩ (.int .u32 (z.toNat : Int))) := by
  have hlt := h.rb.lt g rfl
  obtain ⟨h1, h2⟩ := h.rb.stored k (.int .u32 (z.toNat : Int))
  rw [natV_set] at h1
  exact ⟨(Below.heap_setCell _ _ _ _ (by show w.heap.size ≠ g; omega)).trans h.ib, h.ra.kept h2 (.inr (fun e => h.ab g e rfl)), h1, h.ab, h.low.grown h2 h.low.size (fun k e => by cases e; omega), by have := h.big; simpa using this⟩
/-- .. and what the first one was. -/
structure Q3 (w : World) (i : Img) (u va vb vw : Value) (n : Nat) (A B C : List (BitVec 32)) (W : World) : Prop where
  q2 : Q2 w i u va vb n A B W
  rc : W.ownsRow (w.heap.size + 1) 22 1 vw n ((natL C).map wordV)
  ca : ∀ k, vw.ownBlock = some k → va.ownBlock ≠ some k ∧ vb.ownBlock ≠ some k
theorem Q3.ext (h : Q3 w i u va vb vw n A B C W) (hb : Below W.heap.size W W') : Q3 w i u va vb vw n A B C W' := ⟨h.q2.ext hb, kept_below h.rc hb, h.ca⟩
theorem Q3.setA {g c : Nat} (h : Q3 w i u (.slice (some ⟨g, 0, none⟩) n c) vb vw n A B C W) (k : Nat) (z : BitVec 32) : Q3 w i u (.slice (some ⟨g, 0, none⟩) n c) vb vw n (A.set k z) B C (W.setCell ⟨g, k, none⟩ (.int .u32 (z.toNat : Int))) :=
  ⟨h.q2.setA k z, h.rc.kept (h.q2.ra.stored k (.int .u32 (z.toNat : Int))).2 (.inr (fun e => (h.ca g e).1 rfl)), h.ca⟩
theorem Q3.setB {g c : Nat} (h : Q3 w i u va (.slice (some ⟨g, 0, none⟩) n c) vw n A B C W) (k : Nat) (z : BitVec 32) : Q3 w i u va (.slice (some ⟨g, 0, none⟩) n c) vw n A (B.set k z) C (W.setCell ⟨g, k, none⟩ (.int .u32 (z.toNat : Int))) :=
  ⟨h.q2.setB k z, h.rc.kept (h.q2.rb.stored k (.int .u32 (z.toNat : Int))).2 (.inr (fun e => (h.ca g e).2 rfl)), h.ca⟩
theorem Q3.new (h : Q2 w i u va vb n A B W) (hb : Below W.heap.size W W') (hc : W'.ownsRow W.heap.size 22 1 vw n ((natL C).map wordV)) : Q3 w i u va vb vw n A B C W' :=
  ⟨h.ext hb, own_lowN hc h.big, fun k e => by
    have h1 := (hc.lt k e).1
    exact ⟨fun e2 => by have := (h.ra.lt k e2).2; omega, fun e2 => by have := (h.rb.lt k e2).2; omega⟩⟩
theorem SlN.put {g o m c gb k : Nat} {l : List Ins} {z : Value} (h : SlN W (.slice (some ⟨g, o, none⟩) m c) l) (hne : g ≠ gb) : SlN (W.setCell ⟨gb, k, none⟩ z) (.slice (some ⟨g, o, none⟩) m c) l := by
  rcases h with h | ⟨g', o', cap, e, hg, hc⟩
  · exact .inl h
  · injection e with e1 e2 e3
    injection e1 with e1
    injection e1 with e4 e5
    subst e4 e5
    have hs := grown_setCell W ⟨gb, k, none⟩ z
    have hb := hs.block g hg (fun e => hne (by injection e))
    exact .inr ⟨g, o, cap, by rw [e2, e3], Nat.lt_of_lt_of_le hg hs.size, fun j hj => by rw [Pm_cell_of (by exact hb)]; exact hc j hj⟩
theorem makeU (N : Nat) (hN : N ≤ 1000) : ∃ M : Array Value, (∀ W : World, (Instr.makeSlice 23 (.int .i64 (N : Int)) (.int .i64 (N : Int))).run Tryz.prog W = .ok (.slice (some ⟨W.heap.size, 0, none⟩) N N) (W.alloc (.cells M 22))) ∧ M.toList = (natL (List.replicate N (BitVec.ofNat 32 0))).map wordV := by
  obtain ⟨i0, hi, hz0, hz1, hz2⟩ := info_parts infoU
  refine ⟨madeCells (Value.int .u32 0).cells (N * i0.size), fun W => ?_, ?_⟩
  · have h := run_make (P := Tryz.prog) W 23 22 i0 (.int .u32 0) Tryz.underlying23 hi hz0 .i64 .i64 (N : Int) (N : Int) (by omega) (by omega) (by rw [hz2]; omega) (by omega)
    simpa using h
  · have e : (madeCells (Value.int .u32 0).cells (N * i0.size)).toList = List.replicate N (.int .u32 0) := by
      rw [hz1, Nat.mul_one]; exact toList_madeCells_one _ _
    rw [e]
    unfold natL
    rw [List.map_replicate, List.map_replicate]; rfl
theorem owns_made {N : Nat} {M : Array Value} {xs : List Value} (hM : M.toList = xs) (hN : xs.length = N) (hN2 : N ≤ 1000) (W : World) {B0 : Nat} (hB : B0 ≤ W.heap.size) : (W.alloc (.cells M 22)).ownsRow B0 22 1 (.slice (some ⟨W.heap.size, 0, none⟩) N N) N xs := by
  have hs : M.size = N := by rw [← hN, ← hM]; simp
  exact ⟨by rw [Nat.mul_one]; exact hN, .inr ⟨W.heap.size, N, M, rfl, hB, heap_alloc_new W _, Nat.le_refl _, by unfold maxLen; omega, by rw [Nat.mul_one]; exact hs, by rw [hM, Nat.mul_one]; exact List.take_of_length_le (by omega)⟩⟩
end Go.Proofs.YtcffpmicencfpaaGreat
