/-
  Contract of package elf's Parse: a file's program, or what is odd.
-/
import Derived.Test.YtegfpbffgnpebaaEJ
namespace Go.Proofs.Ytegfpbffgnpebaa
open Go.RowKit El Go.Lib
open Classical
set_option linter.unusedSimpArgs false

theorem results_row_tmpE {P : Program} {fn : Func} {p u : Tmp} {ty : TypeId} (h : fn.results = #[.cell p ty, .tmp u]) (tmps : Array Value) (w : World) (g : Nat) (t : TypeId) (cs : Array Value) (fr : Nat × Nat) (d : TypeDesc)
    (hp : tmps.getD p undef = .pointer (some ⟨g, 0, none⟩)) (hg : w.heap[g]? = some (.cells cs t fr))
    (hu : P.underlying ty = some d) (hd : (match d with | .struct _ | .array _ _ => true | _ => false) = true) (hi : (P.info? ty).map (·.size) = some cs.size) :
    (results fn tmps).run P w = .ok (.tuple #[.agg cs, tmps.getD u undef]) w := by
  have hp' : tmps[p]?.getD undef = .pointer (some ⟨g, 0, none⟩) := by simpa using hp
  simp [results, h, hp', asAddr, run_loadVar_row w g t ty cs fr d hg hu hd hi]
theorem own_base {W : World} {B b : Nat} {t : TypeId} {k : Nat} {v : Value} {n : Nat} {xs : List Value} (h : W.ownsRow B t k v n xs) (hb : b ≤ B) : W.ownsRow b t k v n xs := by
  refine ⟨h.1, ?_⟩
  rcases h.2 with h0 | ⟨g, cap, cur, h1, h2, h3⟩
  · exact .inl h0
  · exact .inr ⟨g, cap, cur, h1, by omega, h3⟩
theorem own_other {W W' : World} {B : Nat} {t : TypeId} {k : Nat} {v : Value} {n : Nat} {xs : List Value} (h : W.ownsRow B t k v n xs) (hb : ∀ g, B ≤ g → W'.heap[g]? = W.heap[g]?) : W'.ownsRow B t k v n xs := by
  refine ⟨h.1, ?_⟩
  rcases h.2 with h0 | ⟨g, cap, cur, h1, h2, h3, h4⟩
  · exact .inl h0
  · exact .inr ⟨g, cap, cur, h1, h2, by rw [hb g h2]; exact h3, h4⟩
theorem program_any (s : List UInt8) (hl : s.length ≤ 281474976710656) (w : World) :
    Calls Try.prog 24 #[.string ⟨s.toArray⟩] w fun e w' => ∃ v, e = ends (prsE s) (.agg #[.int .u32 (le4 s 24 : Int), .int .u32 (le4 s 36 : Int), v]) ∧ (prsE s = 0 → w'.ownsRow w.heap.size 36 4 v (told s).segs.length (csS (told s).segs)) ∧ Below w.heap.size w w' := by
  have bad : ∀ k : Int, k ≠ 0 → prsE s = k → (Calls Try.prog 24 #[.string ⟨s.toArray⟩] w fun e w' => e = ends k .nilIface ∧ Below w.heap.size w w') →
      Calls Try.prog 24 #[.string ⟨s.toArray⟩] w fun e w' => ∃ v, e = ends (prsE s) (.agg #[.int .u32 (le4 s 24 : Int), .int .u32 (le4 s 36 : Int), v]) ∧ (prsE s = 0 → w'.ownsRow w.heap.size 36 4 v (told s).segs.length (csS (told s).segs)) ∧ Below w.heap.size w w' := fun k hk e h => by
    rw [e]
    exact h.mono fun e' w' ⟨h1, h2⟩ => ⟨.nilIface, by rw [h1]; exact ends_any hk _ _, fun h0 => absurd h0 hk, h2⟩
  by_cases h1 : s.length < 52
  · exact bad 60 (by decide) (by unfold prsE; rw [if_pos h1]) (program_short s h1 w)
  · by_cases h2 : Right s
    · by_cases h3 : 16 < le2 s 44
      · exact bad 2 (by decide) (by unfold prsE; rw [if_neg h1, if_neg (fun h => h h2), if_pos h3]) (program_big s (by omega) h2 h3 hl w)
      · by_cases h4 : s.length < le4 s 28 + 32 * le2 s 44
        · exact bad 60 (by decide) (by unfold prsE; rw [if_neg h1, if_neg (fun h => h h2), if_neg h3, if_pos h4]) (program_table s (by omega) h2 (by omega) h4 hl w)
        · exact program_rows s (le4 s 28) (le2 s 44) (le4 s 24) (le4 s 36) rfl rfl rfl rfl (by omega) h2 (by omega) (by omega) hl (prsE s) (by unfold prsE; rw [if_neg h1, if_neg (fun h => h h2), if_neg h3, if_neg h4]) w
    · exact bad 61 (by decide) (by unfold prsE; rw [if_neg h1, if_pos h2]) (program_class s (by omega) h2 hl w)
/-- What attempt leaves behind what the work left. -/
structure Left2 (w w1 w' : World) : Prop where
  size : w'.heap.size = w1.heap.size
  other : ∀ b, b ≠ w.heap.size → w'.heap[b]? = w1.heap[b]?
  below : ∀ B w0, B ≤ w.heap.size → Below B w0 w1 → Below B w0 w'
theorem attempt_file (p q : Addr) (k : Int) (hk : k = 0 ∨ Told k) (w : World) (R : World → Prop)
    (hw : Calls Try.prog 23 #[.pointer (some p), .pointer (some q)] (w.alloc (.cells #[.int .i64 0] 27)) fun e w' => e = ends k (.tuple #[]) ∧ w'.heap[w.heap.size]? = some (.cells #[.int .i64 0] 27 (0, 0)) ∧ R w') :
    Calls Try.prog 20 #[.func (.func 23) #[] #[.pointer (some p), .pointer (some q)]] w fun e w' => e = .returned (.int .i64 k) ∧ ∃ w1, R w1 ∧ Left2 w w1 w' := by
  have hmf : ∀ (fn : Fn) (first cap : Array Value) (w : World), (Instr.makeFunc fn first cap).run Try.prog w = .ok (.func fn first cap) w := fun _ _ _ _ => rfl
  go_enter_defers Try.func20, Try.ntmps20
  go_wp2_with fail
  refine hw.mono ?_
  rintro e w1 ⟨rfl, hb, hR⟩
  have hc : w1.cell? ⟨w.heap.size, 0, none⟩ = some (.int .i64 0) := by simp [World.cell?, hb]
  have hz : w1.frozen? ⟨w.heap.size, 0, none⟩ = false := by simp [World.frozen?, hb]
  rcases hk with rfl | hk
  · rw [ends_zero]
    go_wp2
    refine leaves_cons (f := 31) (args := #[.pointer (some ⟨w.heap.size, 0, none⟩)]) (by simp) (by simp [go_sem]) ?_
    refine (catch_nil ⟨w.heap.size, 0, none⟩ 0 _ (cell_shape hc _) (by rw [World.frozen?_setCell]; exact hz)).mono ?_
    rintro e u' w'' ⟨rfl, rfl, rfl⟩
    have hc2 := cell_shape (cell_shape hc (.int .i64 0)) (.int .i64 0)
    simp only [Leaves, settle]
    refine ⟨.int .i64 0, ?_, rfl, w1, hR, ⟨by rw [set_size, set_size], fun b h => by rw [set_other _ _ _ _ h, set_other _ _ _ _ h], fun B w0 hB hb0 => (hb0.setCell hB _).setCell hB _⟩⟩
    simp [results, Try.results20, go_sem, hc2]
  · rw [ends_odd hk.ne]
    go_wp2
    refine leaves_cons (f := 31) (args := #[.pointer (some ⟨w.heap.size, 0, none⟩)]) (by simp) (by simp [go_sem]) ?_
    refine (catch_odd k hk ⟨w.heap.size, 0, none⟩ 0 [] _ hc hz).mono ?_
    rintro e u' w'' ⟨rfl, rfl, rfl⟩
    have hc2 := cell_shape hc (.int .i64 k)
    simp only [Leaves, settle, List.dropWhile]
    refine ⟨.int .i64 k, ?_, rfl, w1, hR, ⟨by rw [set_size], fun b h => by rw [set_other _ _ _ _ h], fun B w0 hB hb0 => hb0.setCell hB _⟩⟩
    simp [results, Try.results20, go_sem, hc2]
/-- What the file's work leaves: the program in its variable. -/
structure Got (X : Prg) (bx B : Nat) (v : Value) (W W' : World) : Prop where
  box : W'.heap[bx]? = some (.cells #[.int .u32 (X.entry.toNat : Int), .int .u32 (X.flags.toNat : Int), v] 25 (0, 0))
  own : W'.ownsRow B 36 4 v X.segs.length (csS X.segs)
  other : ∀ b, b < B → b ≠ bx → W'.heap[b]? = W.heap[b]?
  below : ∀ C w0, C ≤ bx → Below C w0 W → Below C w0 W'
theorem parseF_any (s : List UInt8) (hl : s.length ≤ 281474976710656) (bs bx : Nat) (w : World) (hs : ∃ t, w.heap[bs]? = some (.cells #[.string ⟨s.toArray⟩] t (0, 0))) (hx : w.heap[bx]? = some (.cells Z3 25 (0, 0))) :
    Calls Try.prog 23 #[.pointer (some ⟨bs, 0, none⟩), .pointer (some ⟨bx, 0, none⟩)] w fun e w' => e = ends (prsE s) (.tuple #[]) ∧ ∃ v, Got (prsV s) bx w.heap.size v w w' := by
  obtain ⟨t, hs⟩ := hs
  have hc : w.cell? ⟨bs, 0, none⟩ = some (.string ⟨s.toArray⟩) := by simp [World.cell?, hs]
  have hbx : bx < w.heap.size := (Array.getElem?_eq_some_iff.1 hx).1
  have HC := hideE (program_any s hl w)
  clear hs
  go_enter Try.func23, Try.ntmps23
  go_wp2_with fail
  refine HC.out.mono ?_
  rintro e w1 ⟨v, he, hown, hb1⟩
  have hx1 := keptN hb1 hx
  by_cases h0 : prsE s = 0
  · rw [h0, ends_zero] at he
    subst he
    have ho := hown h0
    obtain ⟨pp, cc, rfl⟩ := own_slice' ho
    have hV := hideE (prs_fine h0).2.1
    have H0 := hideE h0
    clear h0 hown HC
    go_wp2_with (first
      | (refine wpList_store_row rfl 25 _ _ rfl bx _ rfl rfl _ Z3 hx1 (by kernel_rfl) rfl (by kernel_rfl) ?_))
    go_end0
    refine ⟨by rw [H0.out, ends_zero], .slice pp (told s).segs.length cc, ?_⟩
    rw [hV.out]
    refine ⟨?_, own_other ho (fun g hg => setRow_other _ _ _ _ (by omega)), fun b hb hne => by rw [setRow_other _ _ _ _ hne, hb1.block b hb], fun C w0 hC hb0 => (hb0.trans (hb1.mono (by omega))).trans (below_setRowE (Below.refl _ _) hC _)⟩
    rw [setRow_heap _ _ _ _ _ _ hx1]
    simp only [told, BitVec.toNat_ofNat]
    rw [Nat.mod_eq_of_lt (le4_lt s 24), Nat.mod_eq_of_lt (le4_lt s 36)]
  · rw [ends_odd h0] at he
    subst he
    have hV := hideE (prs_bad h0)
    have H0 := hideE h0
    clear h0 hown HC
    go_wp2_with fail
    refine ⟨rfl, by rw [ends_odd H0.out], .slice none 0 0, ?_⟩
    rw [hV.out]
    exact ⟨hx1, World.ownsRow_nil _ _ _ _, fun b hb _ => hb1.block b hb, fun C w0 hC hb0 => hb0.trans (hb1.mono (by omega))⟩
abbrev W3 (s : List UInt8) (w : World) : World := ((w.alloc (.cells #[.string ⟨s.toArray⟩] 9)).alloc (.cells Z3 25)).alloc (.cells Z3 25)
theorem w3_facts (s : List UInt8) (w : World) (ob : Obj) : ((W3 s w).alloc ob).heap[w.heap.size]? = some (.cells #[.string ⟨s.toArray⟩] 9 (0, 0)) ∧ ((W3 s w).alloc ob).heap[w.heap.size + 1]? = some (.cells Z3 25 (0, 0)) ∧ ((W3 s w).alloc ob).heap[w.heap.size + 2]? = some (.cells Z3 25 (0, 0)) ∧ ((W3 s w).alloc ob).heap[w.heap.size + 3]? = some ob ∧ (W3 s w).heap.size = w.heap.size + 3 ∧ Below w.heap.size w ((W3 s w).alloc ob) := by
  refine ⟨?_, ?_, ?_, ?_, by simp, (((((Below.refl _ w).alloc (Nat.le_refl _) _).alloc (by simp) _).alloc (by simp; omega) _).alloc (by simp; omega) _)⟩
  · rw [Below.heap_alloc _ _ _ (by simp; omega), Below.heap_alloc _ _ _ (by simp; omega), Below.heap_alloc _ _ _ (by simp)]; exact heap_alloc_new w _
  · rw [Below.heap_alloc _ _ _ (by simp), Below.heap_alloc _ _ _ (by simp)]
    have := heap_alloc_new (w.alloc (.cells #[.string ⟨s.toArray⟩] 9)) (.cells Z3 25)
    simpa using this
  · rw [Below.heap_alloc _ _ _ (by simp)]
    have := heap_alloc_new ((w.alloc (.cells #[.string ⟨s.toArray⟩] 9)).alloc (.cells Z3 25)) (.cells Z3 25)
    simpa using this
  · have := heap_alloc_new (W3 s w) ob
    simpa using this
/-- Parse, of any bytes. -/
theorem parse_any (s : List UInt8) (hl : s.length ≤ 281474976710656) (w : World) :
    Calls Try.prog 15 #[.string ⟨s.toArray⟩] w fun e w' => ∃ v, e = .returned (.tuple #[prgV (prsV s) v, .int .i64 (prsE s)]) ∧ SlS w' v (prsV s).segs ∧ Below w.heap.size w w' := by
  have hmf : ∀ (fn : Fn) (first cap : Array Value) (w : World), (Instr.makeFunc fn first cap).run Try.prog w = .ok (.func fn first cap) w := fun _ _ _ _ => rfl
  have HA := hideE (attempt_file ⟨w.heap.size, 0, none⟩ ⟨w.heap.size + 2, 0, none⟩ (prsE s) (prs_told s) (W3 s w) (fun w1 => ∃ v, Got (prsV s) (w.heap.size + 2) (w.heap.size + 4) v ((W3 s w).alloc (.cells #[.int .i64 0] 27)) w1) (by
    obtain ⟨f0, f1, f2, f3, f4, f5⟩ := w3_facts s w (.cells #[.int .i64 0] 27)
    refine (parseF_any s hl w.heap.size (w.heap.size + 2) _ ⟨_, f0⟩ f2).mono ?_
    rintro e w' ⟨he, v, hg⟩
    have hsz : ((W3 s w).alloc (.cells #[.int .i64 0] 27)).heap.size = w.heap.size + 4 := by simp
    rw [hsz] at hg
    refine ⟨he, ?_, v, hg⟩
    rw [f4, hg.other _ (by omega) (by omega)]; exact f3))
  obtain ⟨f0, f1, f2, f3, f4, f5⟩ := w3_facts s w (.cells #[.int .i64 0] 27)
  have hf0 := hideE f1
  have hf5 := hideE f5
  have hf4 := hideE f4
  clear f0 f1 f2 f3 f4 f5
  unfold prgV
  generalize prsV s = X at HA ⊢
  generalize prsE s = k at HA ⊢
  go_enter Try.func15, Try.ntmps15
  go_wp2_with fail
  refine HA.out.mono ?_
  rintro e w4 ⟨rfl, w1, ⟨v, hg⟩, hl2⟩
  have hne := hf4.out
  have hbx : w4.heap[w.heap.size + 2]? = some (.cells #[.int .u32 (X.entry.toNat : Int), .int .u32 (X.flags.toNat : Int), v] 25 (0, 0)) := by rw [hl2.other _ (by rw [hne]; omega)]; exact hg.box
  have hrs : w4.heap[w.heap.size + 1]? = some (.cells Z3 25 (0, 0)) := by rw [hl2.other _ (by rw [hne]; omega), hg.other _ (by omega) (by omega)]; exact hf0.out
  have hown := own_other (W' := w4) hg.own (fun g hg => hl2.other _ (by rw [hne]; omega))
  have hlow := hl2.below w.heap.size w (by rw [hne]; omega) (hg.below _ _ (by omega) hf5.out)
  obtain ⟨pp, cc, rfl⟩ := own_slice' hown
  clear hg hl2 hne HA hf0 hf5 hf4
  go_wp2_with (first
    | (refine wpList_load_row rfl 25 _ rfl (w.heap.size + 2) rfl _ _ _ _ hbx Try.underlying25 rfl (by kernel_rfl) ?_)
    | (refine wpList_store_row rfl 25 _ _ rfl (w.heap.size + 1) _ rfl rfl _ Z3 hrs (by kernel_rfl) rfl (by kernel_rfl) ?_))
  exact bodyPost_ret (results_row_tmpE (p := 2) (u := 3) (by kernel_rfl) _ _ (w.heap.size + 1) _ _ _ _ rfl (setRow_heap _ _ _ _ _ _ hrs) Try.underlying25 rfl (by kernel_rfl)) rfl ⟨_, rfl, sls_of_owns (own_other hown (fun g hg => setRow_other _ _ _ _ (by omega))), below_setRowE hlow (by omega) _⟩
end Go.Proofs.Ytegfpbffgnpebaa
