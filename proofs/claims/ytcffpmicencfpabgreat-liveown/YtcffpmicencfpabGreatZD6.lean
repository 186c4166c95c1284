/-
  The statements' own helper Text (layer 8): a text of at most 40 words, of any image.
  What the laws over a text and its blocks share (layer 8): the text's box, a slice of words behind another one, and what answers of Find have in common.
-/
import Derived.Laws.AppendOwnNone
import Derived.Test.YtcffpmicencfpabGreatZC1
import Derived.Test.YtcffpmicencfpabGreatZC7
import Derived.Test.YtcffpmicencfpabGreatZD5
namespace Go.Proofs.YtcffpmicencfpabGreat
open Go.RowKit Go.Lib Go.Sort Go.Maps Ip Bl Pm
set_option linter.unusedSimpArgs false
set_option linter.unusedVariables false

def txtI (a e : BitVec 32) (ws : List Nat) : Img := ⟨a &&& (BitVec.ofNat 32 4294963200), e, ws.take 40, 0⟩
theorem txtI_ok (a e : BitVec 32) (ws : List Nat) (hw : ∀ n ∈ ws, n < 4294967296) : (txtI a e ws).ok := by
  have hl : (ws.take 40).length ≤ 40 := by rw [List.length_take]; omega
  have h1 : (a &&& (BitVec.ofNat 32 4294963200)).toNat = a.toNat / 4096 * 4096 := by
    rw [BitVec.toNat_and]
    have ha := a.isLt
    have e : ((BitVec.ofNat 32 4294963200)).toNat = 4294963200 := rfl
    rw [e]
    have h := Nat.and_two_pow_sub_one_eq_mod a.toNat 12
    have h2 : a.toNat &&& 4294963200 = a.toNat - a.toNat % 4096 := by
      have h3 : a.toNat = a.toNat / 2 ^ 12 * 2 ^ 12 + a.toNat % 2 ^ 12 := by omega
      have h4 : a.toNat &&& 4294963200 = a.toNat / 2 ^ 12 * 2 ^ 12 := by
        apply Nat.eq_of_testBit_eq
        intro i
        rw [Nat.testBit_and, Nat.testBit_mul_two_pow, Nat.testBit_div_two_pow]
        have h5 : (4294963200 : Nat) = 1048575 * 2 ^ 12 := by decide
        rw [h5, Nat.testBit_mul_two_pow]
        by_cases hi : 12 ≤ i
        · simp only [hi, decide_true, Bool.true_and, show i - 12 + 12 = i by omega]
          have h6 : (1048575 : Nat) = 2 ^ 20 - 1 := by decide
          rw [h6, Nat.testBit_two_pow_sub_one]
          by_cases hj : i - 12 < 20
          · simp [hj]
          · have h7 : a.toNat.testBit i = false := Nat.testBit_lt_two_pow (Nat.lt_of_lt_of_le ha (by
              have : (4294967296 : Nat) = 2 ^ 32 := by decide
              show 2 ^ 32 ≤ 2 ^ i
              exact Nat.pow_le_pow_right (by omega) (by omega)))
            rw [h7]; simp
        · simp [hi]
      omega
    omega
  have ha := a.isLt
  refine ⟨?_, ?_, ?_, fun n hn => hw n (List.mem_of_mem_take hn)⟩
  · show (a &&& (BitVec.ofNat 32 4294963200)).toNat % 4 = 0; omega
  · show (a &&& (BitVec.ofNat 32 4294963200)).toNat + 4 * (ws.take 40).length ≤ _; omega
  · show (ws.take 40).length ≤ _; omega
def Z4 : Array Value := #[.int .u32 0, .int .u32 0, .slice none 0 0, .int .i64 0]
/-- While Text is at work: its image's box, and that of its answer. -/
structure Tt (w : World) (a e : BitVec 32) (u : Value) (s : Int) (W : World) : Prop where
  ib : W.heap[w.heap.size]? = some (.cells #[.int .u32 (a.toNat : Int), .int .u32 (e.toNat : Int), u, .int .i64 s] 26 (0, 0))
  rb : ∃ cs : Array Value, W.heap[w.heap.size + 1]? = some (.cells cs 26 (0, 0)) ∧ cs.size = 4
  low : Below w.heap.size w W
  big : w.heap.size + 2 ≤ W.heap.size
theorem Tt.ext {w W W' : World} {a e : BitVec 32} {u : Value} {s : Int} (h : Tt w a e u s W) (hb : Below W.heap.size W W') : Tt w a e u s W' := ⟨keptN hb h.ib, h.rb.elim fun cs hc => ⟨cs, keptN hb hc.1, hc.2⟩, h.low.trans (hb.mono h.low.size), Nat.le_trans h.big hb.size⟩
theorem Tt.grown {w W W' : World} {a e : BitVec 32} {u : Value} {s : Int} {g : Option Nat} (h : Tt w a e u s W) (hg : W.grownBy W' g) (hlo : ∀ k, g = some k → w.heap.size + 2 ≤ k) : Tt w a e u s W' := by
  have hb := h.big
  exact ⟨(hg.block _ (by omega) (fun e => by have := hlo _ e.symm; omega)).trans h.ib, h.rb.elim fun cs hc => ⟨cs, (hg.block _ (by omega) (fun e => by have := hlo _ e.symm; omega)).trans hc.1, hc.2⟩, h.low.grown hg (by omega) (fun k e => by have := hlo k e; omega), Nat.le_trans hb hg.size⟩
theorem Tt.new (w : World) (a e : BitVec 32) (u : Value) (s : Int) : Tt w a e u s ((w.alloc (.cells #[.int .u32 (a.toNat : Int), .int .u32 (e.toNat : Int), u, .int .i64 s] 26)).alloc (.cells Z4 26)) := by
  have h0 := heap_alloc_new (w.alloc (.cells #[.int .u32 (a.toNat : Int), .int .u32 (e.toNat : Int), u, .int .i64 s] 26)) (.cells Z4 26)
  rw [World.size_alloc] at h0
  exact ⟨keptN ((Below.refl _ _).alloc (Nat.le_refl _) _) (heap_alloc_new w _), ⟨_, h0, rfl⟩, ((Below.refl _ w).alloc (Nat.le_refl _) _).alloc (by simp) _, by simp⟩
theorem Tt.row {w W : World} {a e : BitVec 32} {u : Value} {s : Int} (h : Tt w a e u s W) (cs : Array Value) (hc : cs.size = 4) : Tt w a e u s (W.setRow (w.heap.size + 1) cs) := by
  obtain ⟨cs0, h0, _⟩ := h.rb
  have hs := grown_setRow W (w.heap.size + 1) cs
  exact ⟨(hs.block _ (by have := h.big; omega) (by intro e; injection e; omega)).trans h.ib, ⟨cs, setRow_heap _ _ _ _ _ _ h0, hc⟩, below_setRowE h.low (Nat.le_succ _) _, by have := h.big; simpa using this⟩
theorem owns_empty (W : World) (B : Nat) (hB : B ≤ W.heap.size) : (W.alloc (.cells #[] 22)).ownsRow B 22 1 (.slice (some ⟨W.heap.size, 0, none⟩) 0 0) 0 [] :=
  World.ownsRow_lit (e := 22) (size := 1) W #[] 0 hB (by unfold maxLen; omega) rfl
/-- What a slice of words yields to an append. -/
theorem news_of {W : World} {ad : Addr} {n c : Nat} {l : List Nat} (h : SlW W (.slice (some ad) n c) l) : ∀ (j : Nat) (x : Value), (l.map wordV)[j]? = some x → W.cell? (ad.add j) = some x := fun j x hj => by
  rw [List.getElem?_map] at hj
  cases e : l[j]? with
  | none => rw [e] at hj; cases hj
  | some y =>
    rw [e] at hj
    injection hj with hj
    subst hj
    obtain ⟨g, o, e1, h1⟩ := h.at e
    injection e1 with e1
    subst e1
    have : (⟨g, o, none⟩ : Addr).add j = ⟨g, o + j, none⟩ := by unfold Addr.add; split <;> simp_all
    rw [this]; exact h1
theorem slw_take {W : World} {v : Value} {l : List Nat} (h : SlW W v l) (k : Nat) : ∀ p n c, v = .slice p n c → SlW W (.slice p (l.take k).length c) (l.take k) := fun p n c hv => by
  rcases h with ⟨p', c', e, rfl⟩ | ⟨g, o, cap, e, hl, hg, hc⟩
  · rw [hv] at e
    injection e with e1 e2 e3
    exact .inl ⟨p, c, by simp, by simp⟩
  · rw [hv] at e
    injection e with e1 e2 e3
    refine .inr ⟨g, o, c, by rw [e1], by rw [List.length_take, e3]; omega, hg, fun j y hj => hc j y ?_⟩
    rw [List.getElem?_take] at hj
    split at hj
    · exact hj
    · cases hj
theorem one_words (l : List Nat) : ∀ x ∈ l.map wordV, x.oneCell' = true := fun x hx => by
  obtain ⟨y, _, rfl⟩ := List.mem_map.1 hx
  rfl
set_option maxHeartbeats 4000000 in
set_option maxRecDepth 100000 in
theorem text_some (a e : BitVec 32) (ad : Addr) (n c : Nat) (ws : List Nat) (s : Int) (hn : ws.length = n) (w : World) (hS : SlW w (.slice (some ad) n c) ws) :
    Calls Tryz.prog 6 #[.agg #[.int .u32 (a.toNat : Int), .int .u32 (e.toNat : Int), .slice (some ad) n c, .int .i64 s]] w fun en W' => ∃ v, en = .returned (.agg (imgC (txtI a e ws) v)) ∧ SlW W' v (ws.take 40) ∧ (∀ k, v.ownBlock = some k → w.heap.size ≤ k) ∧ Below w.heap.size w W' := by
  obtain ⟨i0, hii, hz0, hz1, hz2⟩ := info_parts infoU
  obtain ⟨k, hk⟩ : ∃ k, (ws.take 40).length = k := ⟨_, rfl⟩
  have hk2 : k ≤ 40 ∧ k ≤ n := by rw [List.length_take] at hk; omega
  have hmin : min (n : Int) 40 = (k : Int) := by rw [List.length_take] at hk; omega
  have hkc : (k : Int) ≤ (c : Int) := by
    rcases hS with ⟨p', c', e1, rfl⟩ | ⟨g, o, cap, e1, hl, _⟩
    · simp at hk; omega
    · injection e1 with _ _ e3; omega
  have hkc' : k ≤ c := by omega
  have HK := hideE hk
  have hand : bits .and .u32 (a.toNat : Int) 4294963200 = ((a &&& (BitVec.ofNat 32 4294963200)).toNat : Int) := Wd.and_ a (BitVec.ofNat 32 4294963200)
  have hst := Tt.new w a e (.slice (some ad) n c) s
  obtain ⟨⟨c0, c1, c2, c3⟩, _⟩ := four hst.ib
  have HST := hideE hst
  have HS := hideE (slw_take hS 40 _ _ _ rfl)
  clear hst hS hk
  go_enter Tryz.func6, Tryz.ntmps6
  go_upto_region 2 with fail
  refine gen_world (Tt w a e (.slice (some ad) n c) s) HST.out ?_
  clear c0 c1 c2 c3 HST
  intro wa h1
  refine wp_region_noPanic ?_
  refine wp_region_held_drew (S := Tt w a e (.slice (some ad) n c) s) (by kernel_rfl) (h1.ext (Below.refl _ wa).drew) (fun h0 => ?_)
  refine wpAnyH_takeAt (i := 0) (v := ?_) rfl (by kernel_rfl) (by kernel_rfl) (by kernel_rfl) (fun _ _ _ h => h) (Or.inl ⟨by rfl, ?_⟩) h0 ?_
  rotate_left 1
  · intro w' hS; have hq := hS.ib; obtain ⟨⟨q0, q1, q2, q3⟩, _⟩ := four hq; clear hS
    go_simp <;> with_reducible rfl
  try simp only [Act.put, List.setIfInBounds_toArray, List.set_cons_zero, List.set_cons_succ]
  refine wpAnyH_takeAt (i := 1) (v := ?_) rfl (by kernel_rfl) (by kernel_rfl) (by kernel_rfl) (fun _ _ _ h => h) (Or.inl ⟨by rfl, ?_⟩) h0 ?_
  rotate_left 1
  · intro w' hS; have hq := hS.ib; obtain ⟨⟨q0, q1, q2, q3⟩, _⟩ := four hq; clear hS
    go_simp <;> with_reducible rfl
  try simp only [Act.put, List.setIfInBounds_toArray, List.set_cons_zero, List.set_cons_succ]
  refine wpAnyH_takeAt (i := 2) (v := ?_) rfl (by kernel_rfl) (by kernel_rfl) (by kernel_rfl) (fun _ _ _ h => h) (Or.inl ⟨by rfl, ?_⟩) h0 ?_
  rotate_left 1
  · intro w' hS; have hq := hS.ib; obtain ⟨⟨q0, q1, q2, q3⟩, _⟩ := four hq; clear hS
    go_simp <;> with_reducible rfl
  try simp only [Act.put, List.setIfInBounds_toArray, List.set_cons_zero, List.set_cons_succ]
  refine wpAnyH_takeAt (i := 3) (v := ?_) rfl (by kernel_rfl) (by kernel_rfl) (by kernel_rfl) (fun _ _ _ h => h) (Or.inl ⟨by rfl, ?_⟩) h0 ?_
  rotate_left 1
  · intro w' hS; have hq := hS.ib; obtain ⟨⟨q0, q1, q2, q3⟩, _⟩ := four hq; clear hS
    go_simp <;> with_reducible rfl
  try simp only [Act.put, List.setIfInBounds_toArray, List.set_cons_zero, List.set_cons_succ]
  refine wpAnyH_takeAt (i := 4) (v := ?_) rfl (by kernel_rfl) (by kernel_rfl) (by kernel_rfl) (fun _ _ _ h => h) (Or.inl ⟨by rfl, ?_⟩) h0 ?_
  rotate_left 1
  · intro w' hS; have hq := hS.ib; obtain ⟨⟨q0, q1, q2, q3⟩, _⟩ := four hq; clear hS
    go_simp <;> with_reducible rfl
  try simp only [Act.put, List.setIfInBounds_toArray, List.set_cons_zero, List.set_cons_succ]
  refine wpAnyH_takeAt (i := 6) (v := ?_) rfl (by kernel_rfl) (by kernel_rfl) (by kernel_rfl) (fun _ _ _ h => h) (Or.inl ⟨by rfl, ?_⟩) h0 ?_
  rotate_left 1
  · intro w' hS; have hq := hS.ib; obtain ⟨⟨q0, q1, q2, q3⟩, _⟩ := four hq; clear hS
    go_simp <;> with_reducible rfl
  try simp only [Act.put, List.setIfInBounds_toArray, List.set_cons_zero, List.set_cons_succ]
  refine wpAnyH_ready (rs := [5]) (by kernel_rfl) (by simp) (allReady_at rfl (fun K hK => ?_))
  go_simp
  have h2 : Tt w a e (.slice (some ad) n c) s _ := h0.ext ((Below.refl _ _).alloc (Nat.le_refl _) (.cells #[] 22))
  refine hK.out _ _ h2 (fun _ => ?_)
  clear hK K
  try simp only [Act.put, List.setIfInBounds_toArray, List.set_cons_zero, List.set_cons_succ]
  refine wpAnyH_ready (rs := [7]) (by kernel_rfl) (by simp) (allReady_at rfl (fun K hK => ?_))
  rw [if_pos (by rfl)]
  refine wp_append_own _ _ _ 24 rfl (w.heap.size + 2) 22 i0 (.int .u32 0) 1 4 Tryz.underlying24 hii hz0 hz1 hz2 rfl (by decide) _ 0 [] rfl (owns_empty _ _ h0.big) ad k c ((ws.take 40).map wordV) rfl (by rw [List.length_map, HK.out, Nat.mul_one]) (news_of (by have := HS.out.below h2.low; rw [HK.out] at this; exact this)) (one_words _) (by unfold maxLen; omega) (by omega) h2.big ?_
  intro v' w4 hown hgrow _
  rw [List.nil_append, Nat.zero_add] at hown
  obtain ⟨pv, cv, rfl⟩ := own_slice' hown
  have h4 : Tt w a e (.slice (some ad) n c) s w4 := h2.grown hgrow (fun k e => by injection e with e; have := h1.big; rw [← e]; exact this)
  have h3 : Tt w a e (.slice (some ad) n c) s w4 := h4
  refine hK.out _ _ h3 (fun _ => ?_)
  clear hK K
  try simp only [Act.put, List.setIfInBounds_toArray, List.set_cons_zero, List.set_cons_succ]
  refine wpAnyH_takeAt (i := 8) (v := ?_) rfl (by kernel_rfl) (by kernel_rfl) (by kernel_rfl) (fun _ _ _ h => h) (Or.inl ⟨by rfl, ?_⟩) h3 ?_
  rotate_left 1
  · intro w' hS; have hq := hS.ib; obtain ⟨⟨q0, q1, q2, q3⟩, _⟩ := four hq; clear hS
    go_simp <;> with_reducible rfl
  try simp only [Act.put, List.setIfInBounds_toArray, List.set_cons_zero, List.set_cons_succ]
  obtain ⟨cs4, hcs4, hz4⟩ := h4.rb
  refine wpAnyH_ready (rs := [9]) (by kernel_rfl) (by simp) (allReady_at rfl (fun K hK => ?_))
  rw [if_pos (by rfl)]
  refine wp_store_row 26 _ _ rfl (w.heap.size + 1) (imgC (txtI a e ws) (.slice pv k cv)) rfl rfl _ _ hcs4 (by kernel_rfl) (by rw [hz4]; rfl) (by kernel_rfl) ?_
  have h5 : Tt w a e (.slice (some ad) n c) s (w4.setRow (w.heap.size + 1) (imgC (txtI a e ws) (.slice pv k cv))) := h4.row (imgC (txtI a e ws) (.slice pv k cv)) rfl
  refine hK.out _ _ h5 (fun _ => ?_)
  clear hK K
  try simp only [Act.put, List.setIfInBounds_toArray, List.set_cons_zero, List.set_cons_succ]
  refine wpAnyH_done (by kernel_rfl) ?_ _
  refine NoPanic.normal ?_
  have hbx := setRow_heap w4 _ _ (imgC (txtI a e ws) (.slice pv k cv)) _ _ hcs4
  have hsl : SlW (w4.setRow (w.heap.size + 1) (imgC (txtI a e ws) (.slice pv k cv))) (.slice pv k cv) (ws.take 40) := by
    have hrow : w4.ownsRow (w.heap.size + 2) 22 1 (.slice pv k cv) (ws.take 40).length ((ws.take 40).map wordV) := by rw [HK.out]; exact hown
    exact slw_of_owns (hrow.kept (grown_setRow _ _ _) (.inr fun e => by have := (hrow.lt _ e).1; omega))
  have hown2 : ∀ j, Value.ownBlock (.slice pv k cv) = some j → w.heap.size ≤ j := fun j e => by have := (hown.lt j e).1; omega
  have hlow := h5.low
  go_wp2_with fail
  exact bodyPost_ret (v := .agg (imgC (txtI a e ws) (.slice pv k cv))) (results_cell_row (p := 2) (by kernel_rfl) _ _ (w.heap.size + 1) _ _ _ _ rfl hbx Tryz.underlying26 rfl (by kernel_rfl)) rfl ⟨_, rfl, hsl, hown2, hlow⟩
theorem wp_append_none8 {P : Program} {o : Oper} {a : Act} {w : World} {K : Act → World → Prop} {Q : Exit → Act → World → Prop} (s x : Operand) (t : TypeId)
    (ho : o.op = .call { callee := .builtin .append, args := #[s, x], argTypes := #[t, t] })
    (base : Nat) (e : TypeId) (i : TypeInfo) (size : Nat) (ht : P.underlying t = some (.slice e)) (hi : P.info? e = some i)
    (v : Value) (n : Nat) (xs : List Value) (hs : a.eval s = v) (hown : w.ownsRow base e size v n xs) (hx : a.eval x = .slice none 0 0)
    (h : K (a.put o.dst v) w) : o.wp P a w K Q := by
  have hrun := run_append_owned_none (P := P) (w := w) base t o.type e i size ht hi v n xs hown
  unfold Oper.wp
  simp [execOp, ho, resolve, invoke, builtin, hs, hx, hrun, Result.andThen]
  exact h
set_option maxHeartbeats 4000000 in
set_option maxRecDepth 100000 in
theorem text_nil (a e : BitVec 32) (s : Int) (w : World) :
    Calls Tryz.prog 6 #[.agg #[.int .u32 (a.toNat : Int), .int .u32 (e.toNat : Int), .slice none 0 0, .int .i64 s]] w fun en W' => ∃ v, en = .returned (.agg (imgC (txtI a e []) v)) ∧ SlW W' v [] ∧ (∀ k, v.ownBlock = some k → w.heap.size ≤ k) ∧ Below w.heap.size w W' := by
  obtain ⟨i0, hii, hz0, hz1, hz2⟩ := info_parts infoU
  have hand : bits .and .u32 (a.toNat : Int) 4294963200 = ((a &&& (BitVec.ofNat 32 4294963200)).toNat : Int) := Wd.and_ a (BitVec.ofNat 32 4294963200)
  have hst := Tt.new w a e (.slice none 0 0) s
  obtain ⟨⟨c0, c1, c2, c3⟩, _⟩ := four hst.ib
  have HST := hideE hst
  clear hst
  go_enter Tryz.func6, Tryz.ntmps6
  go_upto_region 2 with fail
  refine gen_world (Tt w a e (.slice none 0 0) s) HST.out ?_
  clear c0 c1 c2 c3 HST
  intro wa h1
  refine wp_region_noPanic ?_
  refine wp_region_held_drew (S := Tt w a e (.slice none 0 0) s) (by kernel_rfl) (h1.ext (Below.refl _ wa).drew) (fun h0 => ?_)
  refine wpAnyH_takeAt (i := 0) (v := ?_) rfl (by kernel_rfl) (by kernel_rfl) (by kernel_rfl) (fun _ _ _ h => h) (Or.inl ⟨by rfl, ?_⟩) h0 ?_
  rotate_left 1
  · intro w' hS; have hq := hS.ib; obtain ⟨⟨q0, q1, q2, q3⟩, _⟩ := four hq; clear hS
    go_simp <;> with_reducible rfl
  try simp only [Act.put, List.setIfInBounds_toArray, List.set_cons_zero, List.set_cons_succ]
  refine wpAnyH_takeAt (i := 1) (v := ?_) rfl (by kernel_rfl) (by kernel_rfl) (by kernel_rfl) (fun _ _ _ h => h) (Or.inl ⟨by rfl, ?_⟩) h0 ?_
  rotate_left 1
  · intro w' hS; have hq := hS.ib; obtain ⟨⟨q0, q1, q2, q3⟩, _⟩ := four hq; clear hS
    go_simp <;> with_reducible rfl
  try simp only [Act.put, List.setIfInBounds_toArray, List.set_cons_zero, List.set_cons_succ]
  refine wpAnyH_takeAt (i := 2) (v := ?_) rfl (by kernel_rfl) (by kernel_rfl) (by kernel_rfl) (fun _ _ _ h => h) (Or.inl ⟨by rfl, ?_⟩) h0 ?_
  rotate_left 1
  · intro w' hS; have hq := hS.ib; obtain ⟨⟨q0, q1, q2, q3⟩, _⟩ := four hq; clear hS
    go_simp <;> with_reducible rfl
  try simp only [Act.put, List.setIfInBounds_toArray, List.set_cons_zero, List.set_cons_succ]
  refine wpAnyH_takeAt (i := 3) (v := ?_) rfl (by kernel_rfl) (by kernel_rfl) (by kernel_rfl) (fun _ _ _ h => h) (Or.inl ⟨by rfl, ?_⟩) h0 ?_
  rotate_left 1
  · intro w' hS; have hq := hS.ib; obtain ⟨⟨q0, q1, q2, q3⟩, _⟩ := four hq; clear hS
    go_simp <;> with_reducible rfl
  try simp only [Act.put, List.setIfInBounds_toArray, List.set_cons_zero, List.set_cons_succ]
  refine wpAnyH_takeAt (i := 4) (v := ?_) rfl (by kernel_rfl) (by kernel_rfl) (by kernel_rfl) (fun _ _ _ h => h) (Or.inl ⟨by rfl, ?_⟩) h0 ?_
  rotate_left 1
  · intro w' hS; have hq := hS.ib; obtain ⟨⟨q0, q1, q2, q3⟩, _⟩ := four hq; clear hS
    go_simp <;> with_reducible rfl
  try simp only [Act.put, List.setIfInBounds_toArray, List.set_cons_zero, List.set_cons_succ]
  refine wpAnyH_takeAt (i := 6) (v := ?_) rfl (by kernel_rfl) (by kernel_rfl) (by kernel_rfl) (fun _ _ _ h => h) (Or.inl ⟨by rfl, ?_⟩) h0 ?_
  rotate_left 1
  · intro w' hS; have hq := hS.ib; obtain ⟨⟨q0, q1, q2, q3⟩, _⟩ := four hq; clear hS
    go_simp <;> with_reducible rfl
  try simp only [Act.put, List.setIfInBounds_toArray, List.set_cons_zero, List.set_cons_succ]
  refine wpAnyH_ready (rs := [5]) (by kernel_rfl) (by simp) (allReady_at rfl (fun K hK => ?_))
  go_simp
  have h2 : Tt w a e (.slice none 0 0) s _ := h0.ext ((Below.refl _ _).alloc (Nat.le_refl _) (.cells #[] 22))
  refine hK.out _ _ h2 (fun _ => ?_)
  clear hK K
  try simp only [Act.put, List.setIfInBounds_toArray, List.set_cons_zero, List.set_cons_succ]
  refine wpAnyH_ready (rs := [7]) (by kernel_rfl) (by simp) (allReady_at rfl (fun K hK => ?_))
  rw [if_pos (by rfl)]
  refine wp_append_none8 _ _ 24 rfl (w.heap.size + 2) 22 i0 1 Tryz.underlying24 hii _ 0 [] rfl (owns_empty _ _ h0.big) rfl ?_
  have h3 : Tt w a e (.slice none 0 0) s _ := h2
  refine hK.out _ _ h3 (fun _ => ?_)
  clear hK K
  try simp only [Act.put, List.setIfInBounds_toArray, List.set_cons_zero, List.set_cons_succ]
  refine wpAnyH_takeAt (i := 8) (v := ?_) rfl (by kernel_rfl) (by kernel_rfl) (by kernel_rfl) (fun _ _ _ h => h) (Or.inl ⟨by rfl, ?_⟩) h3 ?_
  rotate_left 1
  · intro w' hS; have hq := hS.ib; obtain ⟨⟨q0, q1, q2, q3⟩, _⟩ := four hq; clear hS
    go_simp <;> with_reducible rfl
  try simp only [Act.put, List.setIfInBounds_toArray, List.set_cons_zero, List.set_cons_succ]
  obtain ⟨cs4, hcs4, hz4⟩ := h3.rb
  refine wpAnyH_ready (rs := [9]) (by kernel_rfl) (by simp) (allReady_at rfl (fun K hK => ?_))
  rw [if_pos (by rfl)]
  refine wp_store_row 26 _ _ rfl (w.heap.size + 1) (imgC (txtI a e []) (.slice (some ⟨wa.heap.size, 0, none⟩) 0 0)) rfl rfl _ _ hcs4 (by kernel_rfl) (by rw [hz4]; rfl) (by kernel_rfl) ?_
  have h5 : Tt w a e (.slice none 0 0) s _ := h3.row (imgC (txtI a e []) (.slice (some ⟨wa.heap.size, 0, none⟩) 0 0)) rfl
  refine hK.out _ _ h5 (fun _ => ?_)
  clear hK K
  try simp only [Act.put, List.setIfInBounds_toArray, List.set_cons_zero, List.set_cons_succ]
  refine wpAnyH_done (by kernel_rfl) ?_ _
  refine NoPanic.normal ?_
  have hbx := setRow_heap _ _ _ (imgC (txtI a e []) (.slice (some ⟨wa.heap.size, 0, none⟩) 0 0)) _ _ hcs4
  have hlow := h5.low
  have hown2 : ∀ j, Value.ownBlock (.slice (some ⟨wa.heap.size, 0, none⟩) 0 0) = some j → w.heap.size ≤ j := fun j e => by cases e; exact h1.low.size
  go_wp2_with fail
  exact bodyPost_ret (v := .agg (imgC (txtI a e []) (.slice (some ⟨wa.heap.size, 0, none⟩) 0 0))) (results_cell_row (p := 2) (by kernel_rfl) _ _ (w.heap.size + 1) _ _ _ _ rfl hbx Tryz.underlying26 rfl (by kernel_rfl)) rfl ⟨_, rfl, .inl ⟨_, _, rfl, rfl⟩, hown2, hlow⟩
/-- Text, of any image. -/
theorem text_any (a e : BitVec 32) (u : Value) (ws : List Nat) (s : Int) (hp : SlP u) (w : World) (hS : SlW w u ws) :
    Calls Tryz.prog 6 #[.agg #[.int .u32 (a.toNat : Int), .int .u32 (e.toNat : Int), u, .int .i64 s]] w fun en W' => ∃ v, en = .returned (.agg (imgC (txtI a e ws) v)) ∧ SlW W' v (ws.take 40) ∧ (∀ k, v.ownBlock = some k → w.heap.size ≤ k) ∧ Below w.heap.size w W' := by
  rcases hp with rfl | ⟨ad, n, c, rfl⟩
  · have h0 : ws = [] := by
      rcases hS with ⟨p', c', _, h⟩ | ⟨g, o, cap, e1, _⟩
      · exact h
      · cases e1
    subst h0
    exact text_nil a e s w
  · have hn : ws.length = n := by
      rcases hS with ⟨p', c', e1, rfl⟩ | ⟨g, o, cap, e1, _⟩
      · injection e1 with _ e2 _; simp [e2]
      · injection e1 with _ e2 _; exact e2.symm
    exact text_some a e ad n c ws s hn w hS
end Go.Proofs.YtcffpmicencfpabGreat
namespace Go.Proofs.YtcffpmicencfpabGreat
open Go.RowKit Go.Lib Go.Sort Go.Maps Ip Bl Pm
set_option linter.unusedSimpArgs false
set_option linter.unusedVariables false

theorem grown_refl (w : World) (g : Option Nat) : w.grownBy w g := ⟨rfl, rfl, rfl, Nat.le_refl _, fun _ _ _ => rfl⟩
theorem slp_of_owns {W : World} {B : Nat} {t : TypeId} {k : Nat} {v : Value} {n : Nat} {xs : List Value} (h : W.ownsRow B t k v n xs) : SlP v := by
  rcases h.2 with ⟨rfl, _⟩ | ⟨g, cap, cur, rfl, _⟩
  · exact .inl rfl
  · exact .inr ⟨_, _, _, rfl⟩
set_option maxRecDepth 100000 in
/-- A slice of words laid behind an own row of words. -/
theorem wpList_append_words {ops : Array Oper} {rest : List Oper} {o : Oper} {a : Act} {w : World} {Q : Exit → Act → World → Prop} (hgd : o.guard = none) (s x : Operand)
    (ho : o.op = .call { callee := .builtin .append, args := #[s, x], argTypes := #[24, 24] })
    (B : Nat) (v : Value) (n : Nat) (xs : List Value) (hs : a.eval s = v) (hown : w.ownsRow B 22 1 v n xs) (u : Value) (l : List Nat) (hx : a.eval x = u) (hS : SlW w u l) (hp : SlP u)
    (hb : n + l.length ≤ 1000000) (hB : B ≤ w.heap.size)
    (h : ∀ v' w', w'.ownsRow B 22 1 v' (n + l.length) (xs ++ l.map wordV) → w.grownBy w' v.ownBlock → wpList Tryz.prog ops Q rest (a.put o.dst v') w') : wpList Tryz.prog ops Q (o :: rest) a w := by
  obtain ⟨i0, hii, hz0, hz1, hz2⟩ := info_parts infoU
  rcases hp with rfl | ⟨ad, m, c, rfl⟩
  · have h0 : l = [] := by
      rcases hS with ⟨p', c', _, h⟩ | ⟨g, o, cap, e1, _⟩
      · exact h
      · cases e1
    subst h0
    exact wpList_append_own_none hgd s x 24 ho B 22 i0 1 Tryz.underlying24 hii v n xs hs hown hx (h v w (by simpa using hown) (grown_refl _ _))
  · have hn : l.length = m := by
      rcases hS with ⟨p', c', e1, rfl⟩ | ⟨g, o, cap, e1, _⟩
      · injection e1 with _ e2 _; simp [e2]
      · injection e1 with _ e2 _; exact e2.symm
    subst hn
    exact wpList_append_own _ hgd s x 24 ho B 22 i0 (.int .u32 0) 1 4 Tryz.underlying24 hii hz0 hz1 hz2 rfl (by decide) v n xs hs hown ad l.length c (l.map wordV) hx (by simp) (news_of hS) (one_words _) (by unfold maxLen; omega) (by omega) hB fun v' w' h2 h3 _ => h v' w' h2 h3
theorem below_appended {B : Nat} {w W W' : World} {g : Option Nat} (h : Below B w W) (hg : W.grownBy W' g) (hB : B ≤ W.heap.size) (hlo : ∀ k, g = some k → B ≤ k) : Below B w W' := h.grown hg hB hlo

theorem Pm_cell_of {W W' : World} {a : Addr} (h : W'.heap[a.block]? = W.heap[a.block]?) : W'.cell? a = W.cell? a := by unfold World.cell?; rw [h]
theorem SlW.set {W : World} {v : Value} {l : List Nat} (h : SlW W v l) (g : Nat) (cs : Array Value) (hne : ∀ k, v.ownBlock = some k → k ≠ g) : SlW (W.setRow g cs) v l := by
  rcases h with h | ⟨b, o, cap, rfl, hl, hg, hc⟩
  · exact .inl h
  · have hs := grown_setRow W g cs
    have hb := hs.block b hg (fun e => by injection e with e; exact hne b rfl e)
    exact .inr ⟨b, o, cap, rfl, hl, Nat.lt_of_lt_of_le hg hs.size, fun j n hj => by rw [Pm_cell_of (by exact hb)]; exact hc j n hj⟩
/-- The text's box, and its words. -/
structure Mb (w : World) (i : Img) (v : Value) (W : World) : Prop where
  box : W.heap[w.heap.size]? = some (.cells (imgC i v) 26 (0, 0))
  lw : SlW W v i.words
  low : Below w.heap.size w W
  big : w.heap.size < W.heap.size
theorem Mb.below {w W W' : World} {i : Img} {v : Value} (h : Mb w i v W) (hb : Below W.heap.size W W') : Mb w i v W' :=
  ⟨keptN hb h.box, h.lw.below hb, h.low.trans (hb.mono h.low.size), Nat.lt_of_lt_of_le h.big hb.size⟩

theorem cntB_top (f : Nat → Bool) (n : Nat) : cntB f n ≤ n := by
  induction n with
  | zero => exact Nat.le_refl _
  | succ n ih => unfold cntB; split <;> omega
theorem sumN_adr (T : Tx) (l : List (Nat × Nat)) : sumN (adrL T l) = sumN l := by
  unfold sumN adrL; rw [List.map_map]; rfl
theorem sumN_take (l : List (Nat × Nat)) (k : Nat) {b : Nat × Nat} (h : l[k]? = some b) : sumN (l.take (k + 1)) = sumN (l.take k) + b.2 := by
  rw [List.take_add_one, h]; exact sumN_snoc _ _
theorem sumN_le (l : List (Nat × Nat)) (k : Nat) : sumN (l.take k) ≤ sumN l := by
  have h := List.take_append_drop k l
  have h2 : sumN l = sumN (l.take k) + sumN (l.drop k) := by
    conv => lhs; rw [← h]
    unfold sumN
    rw [List.map_append, List.sum_append]
  omega
theorem AnsF.few {T : Tx} {seeds : List Nat} {e : Nat} {l : List (Nat × Nat)} (h : AnsF T seeds e l) : l.length ≤ T.n ∧ sumN l ≤ T.n := by
  obtain ⟨L, hc, rfl, rfl⟩ := h
  split
  · rw [sumN_adr, blks_sum, show (adrL T (blks T seeds L T.n)).length = (blks T seeds L T.n).length by simp [adrL], blks_len]
    exact ⟨cntB_top _ _, cntB_top _ _⟩
  · exact ⟨Nat.zero_le _, Nat.zero_le _⟩
theorem AnsF.more {T : Tx} {seeds seeds' : List Nat} {e e' : Nat} {l l' : List (Nat × Nat)} (hT : Bl.Fair T) (h : AnsF T seeds e l) (h' : AnsF T seeds' e' l') (hs : ∀ a ∈ seeds, a ∈ seeds') (h0 : e' = 0) : e = 0 ∧ sumN l ≤ sumN l' ∧ l.length ≤ l'.length := by
  obtain ⟨L, hc, rfl, rfl⟩ := h
  obtain ⟨L', hc', rfl, rfl⟩ := h'
  have hLL : ∀ a ∈ L, a ∈ L' := fun a ha => (hc'.mem a).2 (reach_more hs ((hc.mem a).1 ha))
  have hz := errL_zero h0
  have he : errL T.err L = 0 := by
    rcases errL_holds T.err L with ⟨h1, _⟩ | ⟨h1, h2, h3, _⟩
    · exact h1
    · exact absurd (h3.symm.trans (hz _ (hLL _ h2))) h1
  rw [if_pos he, if_pos h0, sumN_adr, sumN_adr]
  have hm := blks_more hT hc hc' hs
  exact ⟨he, hm.1, by simpa [adrL] using hm.2⟩
end Go.Proofs.YtcffpmicencfpabGreat
