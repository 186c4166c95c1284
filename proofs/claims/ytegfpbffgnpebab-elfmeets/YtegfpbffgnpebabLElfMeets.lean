/-
  The walk of ElfMeets.
-/
import Derived.Test.YtegfpbffgnpebabET
import Derived.Deep.Cut
namespace Go.Proofs.Ytegfpbffgnpebab
open Go.RowKit El Go.Lib
open Classical
set_option linter.unusedSimpArgs false

theorem mask16m (c : Int) : ∃ d : Nat, d < 65536 ∧ bits .and .i64 c 65535 = (d : Int) := by
  refine ⟨(BitVec.ofInt 64 c &&& BitVec.ofInt 64 65535).toNat, ?_, ?_⟩
  · rw [BitVec.toNat_and]
    exact Nat.lt_of_le_of_lt Nat.and_le_right (by decide)
  · have e : bits .and .i64 c 65535 = IntKind.i64.wrap ((BitVec.ofInt 64 c &&& BitVec.ofInt 64 65535).toNat : Int) := rfl
    have hl : (BitVec.ofInt 64 c &&& BitVec.ofInt 64 65535).toNat < 65536 := by
      rw [BitVec.toNat_and]
      exact Nat.lt_of_le_of_lt Nat.and_le_right (by decide)
    rw [e, wrE (by omega) (by omega)]
theorem mask31 (a : BitVec 32) : ∃ P : BitVec 32, P.toNat < 2147483648 ∧ bits .and .u32 (a.toNat : Int) 2147483647 = (P.toNat : Int) := by
  refine ⟨a &&& (BitVec.ofNat 32 2147483647), ?_, ?_⟩
  · rw [BitVec.toNat_and]
    exact Nat.lt_of_le_of_lt Nat.and_le_right (by decide)
  · rw [BitVec.toNat_and]
    exact u32_and_nat _ _ a.isLt (by decide : ((BitVec.ofNat 32 2147483647)).toNat < 4294967296)
/-- Two segments without bytes. -/
def bareS (P : BitVec 32) (k : Nat) : Seg := ⟨P, [], (k : Int), 0⟩
theorem bare_may (P : BitVec 32) (k : Nat) (h1 : 1 ≤ k) (h2 : k ≤ 65536) (hP : P.toNat + k ≤ 4294967296) : (bareS P k).may := by
  unfold bareS Seg.may
  simp only [List.length_nil]
  omega
theorem bare_chk (P Q : BitVec 32) (k l : Nat) (h1 : 1 ≤ k) (h2 : k ≤ 65536) (h3 : 1 ≤ l) (h4 : l ≤ 65536) (hP : P.toNat + k ≤ 4294967296) (hQ : Q.toNat + l ≤ 4294967296) :
    (chk [bareS P k, bareS Q l] = 0 ↔ (P.toNat + k ≤ Q.toNat ∨ Q.toNat + l ≤ P.toNat)) ∧ (chk [bareS P k, bareS Q l] = 0 ∨ chk [bareS P k, bareS Q l] = 63) := by
  have hm : ∀ g ∈ [bareS P k, bareS Q l], g.may := fun g hg => by
    simp at hg
    rcases hg with rfl | rfl
    · exact bare_may P k h1 h2 hP
    · exact bare_may Q l h3 h4 hQ
  have hap : (bareS Q l).apart (bareS P k) ↔ (P.toNat + k ≤ Q.toNat ∨ Q.toNat + l ≤ P.toNat) := by
    unfold Seg.apart bareS; simp only []; omega
  by_cases h : P.toNat + k ≤ Q.toNat ∨ Q.toNat + l ≤ P.toNat
  · have hz : chk [bareS P k, bareS Q l] = 0 := chk_ok (by simp) hm (fun ⟨i, j, g, g', hij, hi, hj, hn⟩ => by
      have hi2 : i < 2 := (List.getElem?_eq_some_iff.1 hi).1
      have e1 : i = 1 := by omega
      have e0 : j = 0 := by omega
      subst e1 e0
      simp at hi hj
      subst hi hj
      exact hn (hap.2 h))
    exact ⟨⟨fun _ => h, fun _ => hz⟩, .inl hz⟩
  · have hz : chk [bareS P k, bareS Q l] = 63 := chk_meet (by simp) hm ⟨1, 0, bareS Q l, bareS P k, by omega, rfl, rfl, fun hh => h (hap.1 hh)⟩
    exact ⟨⟨fun e => (by rw [hz] at e; cases e), fun hh => absurd hh h⟩, .inr hz⟩
theorem bare_fits (P Q : BitVec 32) (k l : Nat) : ∀ g ∈ ([bareS P k, bareS Q l] : List Seg), Fits g ∨ 65536 < k ∨ 65536 < l := fun g hg => by
  by_cases h : 65536 < k ∨ 65536 < l
  · exact .inr h
  · refine .inl ?_
    simp at hg
    rcases hg with rfl | rfl <;> exact ⟨by simp only [bareS]; omega, by simp only [bareS]; omega⟩
theorem sls_two (W : World) (b : Nat) (P Q : BitVec 32) (k l : Nat) (h : W.heap[b]? = some (.cells #[.int .u32 (P.toNat : Int), .string ⟨#[]⟩, .int .i64 (k : Int), .int .i64 0, .int .u32 (Q.toNat : Int), .string ⟨#[]⟩, .int .i64 (l : Int), .int .i64 0] 26 (0, 0))) : SlS W (.slice (some ⟨b, 0, none⟩) 2 2) [bareS P k, bareS Q l] := by
  refine .inr ⟨b, 0, 2, rfl, Nat.le_refl _, (Array.getElem?_eq_some_iff.1 h).1, fun j hj => ?_⟩
  rw [Nat.zero_add, Lib.cell_of_heap h]
  have hj8 : j < 8 := hj
  match j, hj8 with
  | 0, _ => rfl
  | 1, _ => rfl
  | 2, _ => rfl
  | 3, _ => rfl
  | 4, _ => rfl
  | 5, _ => rfl
  | 6, _ => rfl
  | 7, _ => rfl
/-- The two programs of ElfMeets, in their boxes. -/
structure MeetW (w : World) (P Q PK : BitVec 32) (k l : Nat) (W : World) : Prop where
  x1 : W.heap[w.heap.size + 1 + 1]? = some (.cells #[.int .u32 0, .int .u32 0, .slice (some ⟨w.heap.size + 1, 0, none⟩) 2 2] 29 (0, 0))
  s1 : SlS W (.slice (some ⟨w.heap.size + 1, 0, none⟩) 2 2) [bareS P k, bareS Q l]
  x2 : W.heap[w.heap.size + 1 + 1 + 1 + 1]? = some (.cells #[.int .u32 0, .int .u32 0, .slice (some ⟨w.heap.size + 1 + 1 + 1, 0, none⟩) 2 2] 29 (0, 0))
  s2 : SlS W (.slice (some ⟨w.heap.size + 1 + 1 + 1, 0, none⟩) 2 2) [bareS P k, bareS PK l]
  low : Below w.heap.size w W
theorem MeetW.below {w W W' : World} {P Q PK : BitVec 32} {k l : Nat} (h : MeetW w P Q PK k l W) (hb : Below W.heap.size W W') : MeetW w P Q PK k l W' := ⟨keptN hb h.x1, h.s1.below hb, keptN hb h.x2, h.s2.below hb, h.low.trans (hb.mono h.low.size)⟩
theorem MeetW.new (w W : World) (P Q PK : BitVec 32) (k l : Nat) (hs : W.heap.size = w.heap.size + 1) (hb : Below w.heap.size w W) :
    MeetW w P Q PK k l ((((W.alloc (.cells #[.int .u32 (P.toNat : Int), .string ⟨#[]⟩, .int .i64 (k : Int), .int .i64 0, .int .u32 (Q.toNat : Int), .string ⟨#[]⟩, .int .i64 (l : Int), .int .i64 0] 26)).alloc (.cells #[.int .u32 0, .int .u32 0, .slice (some ⟨w.heap.size + 1, 0, none⟩) 2 2] 29)).alloc (.cells #[.int .u32 (P.toNat : Int), .string ⟨#[]⟩, .int .i64 (k : Int), .int .i64 0, .int .u32 (PK.toNat : Int), .string ⟨#[]⟩, .int .i64 (l : Int), .int .i64 0] 26)).alloc (.cells #[.int .u32 0, .int .u32 0, .slice (some ⟨w.heap.size + 1 + 1 + 1, 0, none⟩) 2 2] 29)) := by
  have z : ∀ (V : World) (o : Obj), (V.alloc o).heap.size = V.heap.size + 1 := fun V o => by simp
  have nw : ∀ (V : World) (cs : Array Value) (t : TypeId) (n : Nat), n = V.heap.size → (V.alloc (.cells cs t)).heap[n]? = some (.cells cs t (0, 0)) := fun V cs t n hn => by subst hn; exact heap_alloc_new V _
  have old : ∀ (V : World) (o : Obj) (n : Nat) (r : Option Obj), n < V.heap.size → V.heap[n]? = r → (V.alloc o).heap[n]? = r := fun V o n r hn h => by rw [Below.heap_alloc _ _ _ hn]; exact h
  refine ⟨old _ _ _ _ (by simp only [z]; omega) (old _ _ _ _ (by simp only [z]; omega) (nw _ _ _ _ (by simp only [z]; omega))), sls_two _ _ _ _ _ _ (old _ _ _ _ (by simp only [z]; omega) (old _ _ _ _ (by simp only [z]; omega) (old _ _ _ _ (by simp only [z]; omega) (nw _ _ _ _ (by omega))))), nw _ _ _ _ (by simp only [z]; omega), sls_two _ _ _ _ _ _ (old _ _ _ _ (by simp only [z]; omega) (nw _ _ _ _ (by simp only [z]; omega))), (((hb.alloc (by omega) _).alloc (by simp only [z]; omega) _).alloc (by simp only [z]; omega) _).alloc (by simp only [z]; omega) _⟩
set_option maxRecDepth 100000 in
set_option maxHeartbeats 4000000 in
theorem elfMeets_at (a b P Q : BitVec 32) (n m : Int) (dn dm : Nat) (w : World) (hP : bits .and .u32 (a.toNat : Int) 2147483647 = (P.toNat : Int)) (hQ : bits .and .u32 (b.toNat : Int) 2147483647 = (Q.toNat : Int)) (hPl : P.toNat < 2147483648) (hQl : Q.toNat < 2147483648) (hn : bits .and .i64 n 65535 = (dn : Int)) (hm : bits .and .i64 m 65535 = (dm : Int)) (hdn : dn < 65536) (hdm : dm < 65536) :
    Calls Try.prog 3 #[.int .u32 (a.toNat : Int), .int .u32 (b.toNat : Int), .agg #[.int .i64 n, .int .i64 m]] w fun e w' => e = .returned (.bool true) ∧ Below w.heap.size w w' := by
  obtain ⟨k, hk⟩ : ∃ k : Nat, k = 1 + dn := ⟨_, rfl⟩
  obtain ⟨l, hl⟩ : ∃ l : Nat, l = 1 + dm := ⟨_, rfl⟩
  have hki : 1 + (dn : Int) = (k : Int) := by omega
  have hli : 1 + (dm : Int) = (l : Int) := by omega
  have hk1 : 1 ≤ k := by omega
  have hk2 : k ≤ 65536 := by omega
  have hl1 : 1 ≤ l := by omega
  have hl2 : l ≤ 65536 := by omega
  clear hk hl
  obtain ⟨PK, hpk⟩ : ∃ PK : BitVec 32, PK.toNat = P.toNat + k := ⟨BitVec.ofNat 32 (P.toNat + k), by rw [BitVec.toNat_ofNat, Nat.mod_eq_of_lt (by omega)]⟩
  have hwp : IntKind.i64.wrap (P.toNat : Int) = (P.toNat : Int) := wrE (by omega) (by omega)
  have hwq : IntKind.i64.wrap (Q.toNat : Int) = (Q.toNat : Int) := wrE (by omega) (by omega)
  have hwk : IntKind.i64.wrap (PK.toNat : Int) = (PK.toNat : Int) := wrE (by omega) (by omega)
  have hpi : (P.toNat : Int) + (k : Int) = (PK.toNat : Int) := by omega
  have HZ := hideE (((bare_chk P PK k l hk1 hk2 hl1 hl2 (by omega) (by omega)).1).2 (.inl (by omega)))
  obtain ⟨c1, c2⟩ := bare_chk P Q k l hk1 hk2 hl1 hl2 (by omega) (by omega)
  have bare_fits : ∀ (P Q : BitVec 32) (k' l' : Nat), k' = k → l' = l → ∀ g ∈ ([bareS P k', bareS Q l'] : List Seg), Fits g := fun P Q k' l' e1 e2 g hg => by
    rcases bare_fits P Q k' l' g hg with h | h | h
    · exact h
    · omega
    · omega
  have Hf := hideE bare_fits
  clear bare_fits
  by_cases h1 : (P.toNat : Int) ≤ (Q.toNat : Int)
  · by_cases h2 : (Q.toNat : Int) < (PK.toNat : Int)
    · have H63 := hideE (c2.resolve_left (fun e => by have := c1.1 e; omega))
      clear c1 c2 hpk
      go_enter Try.func3, Try.ntmps3
      go_wp2_with fail
      go_quiet (fail)
      go_upto_region 10 with fail
      refine gen_world (MeetW w P Q PK k l) (MeetW.new w _ P Q PK k l (by simp [World.drewN]) (((Below.refl _ w).alloc (Nat.le_refl _) _).trans (drew_low _ _ _))) ?_
      intro W1 hM
      obtain ⟨⟨a0, a1, a2⟩, _⟩ := three hM.x1
      have HC1 := hideE (check_any ⟨(BitVec.ofNat 32 0), (BitVec.ofNat 32 0), [bareS P k, bareS Q l]⟩ _ (Hf.out P Q k l rfl rfl) W1 hM.s1)
      rw [H63.out] at HC1
      have HM := hideE hM
      clear hM
      go_wp2_with fail
      refine HC1.out.mono ?_
      rintro e W2 ⟨rfl, hb2⟩
      have hM2 := HM.out.below hb2
      obtain ⟨⟨d0, d1, d2⟩, _⟩ := three hM2.x2
      have HC2 := hideE (check_any ⟨(BitVec.ofNat 32 0), (BitVec.ofNat 32 0), [bareS P k, bareS PK l]⟩ _ (Hf.out P PK k l rfl rfl) W2 hM2.s2)
      rw [HZ.out] at HC2
      have HM2 := hideE hM2
      clear hM2 hb2 HC1 a0 a1 a2
      go_wp2_with fail
      refine HC2.out.mono ?_
      rintro e W3 ⟨rfl, hb3⟩
      have hb := HM2.out.low.trans (hb3.mono HM2.out.low.size)
      go_wp2_with (go_at_call 5; refine (fixed6_any _).mono ?_; rintro e W4 ⟨rfl, hb4⟩)
      go_ret
      exact ⟨rfl, hb.trans (hb4.mono hb.size)⟩
    · have H0 := hideE (c1.2 (by omega))
      have h3 : ¬ ((Q.toNat : Int) ≤ (P.toNat : Int)) := by omega
      clear c1 c2 hpk
      go_enter Try.func3, Try.ntmps3
      go_wp2_with fail
      go_quiet (fail)
      go_upto_region 10 with fail
      refine gen_world (MeetW w P Q PK k l) (MeetW.new w _ P Q PK k l (by simp [World.drewN]) (((Below.refl _ w).alloc (Nat.le_refl _) _).trans (drew_low _ _ _))) ?_
      intro W1 hM
      obtain ⟨⟨a0, a1, a2⟩, _⟩ := three hM.x1
      have HC1 := hideE (check_any ⟨(BitVec.ofNat 32 0), (BitVec.ofNat 32 0), [bareS P k, bareS Q l]⟩ _ (Hf.out P Q k l rfl rfl) W1 hM.s1)
      rw [H0.out] at HC1
      have HM := hideE hM
      clear hM
      go_wp2_with fail
      refine HC1.out.mono ?_
      rintro e W2 ⟨rfl, hb2⟩
      have hM2 := HM.out.below hb2
      obtain ⟨⟨d0, d1, d2⟩, _⟩ := three hM2.x2
      have HC2 := hideE (check_any ⟨(BitVec.ofNat 32 0), (BitVec.ofNat 32 0), [bareS P k, bareS PK l]⟩ _ (Hf.out P PK k l rfl rfl) W2 hM2.s2)
      rw [HZ.out] at HC2
      have HM2 := hideE hM2
      clear hM2 hb2 HC1 a0 a1 a2
      go_wp2_with fail
      refine HC2.out.mono ?_
      rintro e W3 ⟨rfl, hb3⟩
      have hb := HM2.out.low.trans (hb3.mono HM2.out.low.size)
      go_wp2_with (go_at_call 5; refine (fixed6_any _).mono ?_; rintro e W4 ⟨rfl, hb4⟩)
      go_ret
      exact ⟨rfl, hb.trans (hb4.mono hb.size)⟩
  · by_cases h4 : (P.toNat : Int) < (Q.toNat : Int) + (l : Int)
    · have H63 := hideE (c2.resolve_left (fun e => by have := c1.1 e; omega))
      have h3 : (Q.toNat : Int) ≤ (P.toNat : Int) := by omega
      clear c1 c2 hpk
      go_enter Try.func3, Try.ntmps3
      go_wp2_with fail
      go_quiet (fail)
      go_upto_region 10 with fail
      refine gen_world (MeetW w P Q PK k l) (MeetW.new w _ P Q PK k l (by simp [World.drewN]) (((Below.refl _ w).alloc (Nat.le_refl _) _).trans (drew_low _ _ _))) ?_
      intro W1 hM
      obtain ⟨⟨a0, a1, a2⟩, _⟩ := three hM.x1
      have HC1 := hideE (check_any ⟨(BitVec.ofNat 32 0), (BitVec.ofNat 32 0), [bareS P k, bareS Q l]⟩ _ (Hf.out P Q k l rfl rfl) W1 hM.s1)
      rw [H63.out] at HC1
      have HM := hideE hM
      clear hM
      go_wp2_with fail
      refine HC1.out.mono ?_
      rintro e W2 ⟨rfl, hb2⟩
      have hM2 := HM.out.below hb2
      obtain ⟨⟨d0, d1, d2⟩, _⟩ := three hM2.x2
      have HC2 := hideE (check_any ⟨(BitVec.ofNat 32 0), (BitVec.ofNat 32 0), [bareS P k, bareS PK l]⟩ _ (Hf.out P PK k l rfl rfl) W2 hM2.s2)
      rw [HZ.out] at HC2
      have HM2 := hideE hM2
      clear hM2 hb2 HC1 a0 a1 a2
      go_wp2_with fail
      refine HC2.out.mono ?_
      rintro e W3 ⟨rfl, hb3⟩
      have hb := HM2.out.low.trans (hb3.mono HM2.out.low.size)
      go_wp2_with (go_at_call 5; refine (fixed6_any _).mono ?_; rintro e W4 ⟨rfl, hb4⟩)
      go_ret
      exact ⟨rfl, hb.trans (hb4.mono hb.size)⟩
    · have H0 := hideE (c1.2 (by omega))
      have h3 : (Q.toNat : Int) ≤ (P.toNat : Int) := by omega
      clear c1 c2 hpk
      go_enter Try.func3, Try.ntmps3
      go_wp2_with fail
      go_quiet (fail)
      go_upto_region 10 with fail
      refine gen_world (MeetW w P Q PK k l) (MeetW.new w _ P Q PK k l (by simp [World.drewN]) (((Below.refl _ w).alloc (Nat.le_refl _) _).trans (drew_low _ _ _))) ?_
      intro W1 hM
      obtain ⟨⟨a0, a1, a2⟩, _⟩ := three hM.x1
      have HC1 := hideE (check_any ⟨(BitVec.ofNat 32 0), (BitVec.ofNat 32 0), [bareS P k, bareS Q l]⟩ _ (Hf.out P Q k l rfl rfl) W1 hM.s1)
      rw [H0.out] at HC1
      have HM := hideE hM
      clear hM
      go_wp2_with fail
      refine HC1.out.mono ?_
      rintro e W2 ⟨rfl, hb2⟩
      have hM2 := HM.out.below hb2
      obtain ⟨⟨d0, d1, d2⟩, _⟩ := three hM2.x2
      have HC2 := hideE (check_any ⟨(BitVec.ofNat 32 0), (BitVec.ofNat 32 0), [bareS P k, bareS PK l]⟩ _ (Hf.out P PK k l rfl rfl) W2 hM2.s2)
      rw [HZ.out] at HC2
      have HM2 := hideE hM2
      clear hM2 hb2 HC1 a0 a1 a2
      go_wp2_with fail
      refine HC2.out.mono ?_
      rintro e W3 ⟨rfl, hb3⟩
      have hb := HM2.out.low.trans (hb3.mono HM2.out.low.size)
      go_wp2_with (go_at_call 5; refine (fixed6_any _).mono ?_; rintro e W4 ⟨rfl, hb4⟩)
      go_ret
      exact ⟨rfl, hb.trans (hb4.mono hb.size)⟩
theorem elfMeets_walk (a b : BitVec 32) (n m : Int) (w : World) (_ : -9223372036854775808 ≤ n ∧ n ≤ 9223372036854775807) (_ : -9223372036854775808 ≤ m ∧ m ≤ 9223372036854775807) :
    Calls Try.prog 3 #[.int .u32 (a.toNat : Int), .int .u32 (b.toNat : Int), .agg #[.int .i64 n, .int .i64 m]] w fun e w' => e = .returned (.bool true) ∧ Below w.heap.size w w' := by
  obtain ⟨P, hPl, hP⟩ := mask31 a
  obtain ⟨Q, hQl, hQ⟩ := mask31 b
  obtain ⟨dn, hdn, hn⟩ := mask16m n
  obtain ⟨dm, hdm, hm⟩ := mask16m m
  exact elfMeets_at a b P Q n m dn dm w hP hQ hPl hQl hn hm hdn hdm
end Go.Proofs.Ytegfpbffgnpebab
