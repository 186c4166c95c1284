/-
  Contract of the document's Plain; the walk of InstForms: it answers true of any kind.
-/
import Derived.Test.YtilphdfobflbiaaRA
import Derived.Test.YtilphdfobflbiaaIM
namespace Go.Proofs.Ytilphdfobflbiaa
open Go.RowKit Ip

def Fr : Array Value := #[.int .i64 18, .int .i64 19, .int .i64 20, .int .i64 21, .int .i64 22, .int .i64 23, .int .i64 24, .int .i64 25, .int .i64 26]
def To : Array Value := #[.int .i64 27, .int .i64 30, .int .i64 31, .int .i64 32, .int .i64 35, .int .i64 36, .int .i64 29, .int .i64 33, .int .i64 34]
theorem tables (w : World) : (∀ k, k < 9 → ((w.alloc (.cells Fr 3)).alloc (.cells To 3)).cell? ⟨w.heap.size, k, none⟩ = Fr[k]?) ∧ (∀ k, k < 9 → ((w.alloc (.cells Fr 3)).alloc (.cells To 3)).cell? ⟨w.heap.size + 1, k, none⟩ = To[k]?) ∧ Below w.heap.size w ((w.alloc (.cells Fr 3)).alloc (.cells To 3)) := by
  refine ⟨fun k _ => ?_, fun k _ => ?_, ((Below.refl _ _).alloc (Nat.le_refl _) _).alloc (by simp) _⟩
  · rw [World.cell?_alloc_past _ _ _ (by simp), World.cell?_alloc_at _ _ _ _ rfl]
  · rw [World.cell?_alloc_at _ _ _ _ (by simp)]
theorem Fr_at (k : Nat) (h : k < 9) : Fr[k]? = some (.int .i64 (18 + (k : Int))) := by
  match k, h with
  | 0, _ | 1, _ | 2, _ | 3, _ | 4, _ | 5, _ | 6, _ | 7, _ | 8, _ => rfl
theorem To_at (k : Nat) (h : k < 9) : To[k]? = some (.int .i64 (plainV (18 + (k : Int)))) := by
  match k, h with
  | 0, _ | 1, _ | 2, _ | 3, _ | 4, _ | 5, _ | 6, _ | 7, _ | 8, _ => rfl
theorem rplain_any (op : Int) (w : World) : Calls Try.prog 24 #[.int .i64 op] w fun e w' => e = .returned (.tuple #[.int .i64 (plainV op), .bool (plainB op)]) ∧ Below w.heap.size w w' := by
  obtain ⟨hcF, hcT, hB⟩ := tables w
  have HC1 : Hid (∀ k, k < 9 → ((w.alloc (.cells Fr 3)).alloc (.cells To 3)).cell? ⟨w.heap.size, k, none⟩ = Fr[k]?) := hcF
  have HC2 : Hid (∀ k, k < 9 → ((w.alloc (.cells Fr 3)).alloc (.cells To 3)).cell? ⟨w.heap.size + 1, k, none⟩ = To[k]?) := hcT
  have HB0 : Hid (Below w.heap.size w ((w.alloc (.cells Fr 3)).alloc (.cells To 3))) := hB
  clear hcF hcT hB
  go_enter Try.func24, Try.ntmps24
  go_wp2_with fail
  have hcF := HC1.out
  have hcT := HC2.out
  have hB := HB0.out
  clear HC1 HC2 HB0
  change Code.wp _ _ _ _ ((w.alloc (.cells Fr 3)).alloc (.cells To 3))
  generalize ((w.alloc (.cells Fr 3)).alloc (.cells To 3)) = W at *
  go_loop [6] (fun i => ∃ k : Nat, k ≤ 9 ∧ i = .int .i64 k ∧ Hid (op < 18 ∨ 18 + (k : Int) ≤ op)) (fun i => 9 - (intOf i).toNat)
  case atStart => exact ⟨0, by omega, rfl, (by omega : op < 18 ∨ 18 + ((0 : Nat) : Int) ≤ op)⟩
  case round =>
    obtain ⟨k, hk, rfl, hno⟩ := hrel
    by_cases hlt : k < 9
    · have hF := (hcF k hlt).trans (Fr_at k hlt)
      have hT := (hcT k hlt).trans (To_at k hlt)
      clear hcF hcT
      by_cases he : (18 + (k : Int) == op) = true
      · have e : op = 18 + (k : Int) := by have := of_decide_eq_true he; omega
        have HV : Hid (plainV (18 + (k : Int)) = plainV op) := show _ = _ by rw [e]
        have HB : Hid (plainB op = true) := decide_eq_true (by omega)
        obtain ⟨v, hv⟩ : ∃ v, plainV (18 + (k : Int)) = v := ⟨_, rfl⟩
        rw [hv] at hT HV
        clear e hv
        go_wp2
        go_ret2
        exact ⟨ret_ib2 HV.out HB.out.symm, hB⟩
      · have he' : (18 + (k : Int) == op) = false := by simpa using he
        have H : Hid (op < 18 ∨ 18 + ((k + 1 : Nat) : Int) ≤ op) := by
          have h1 := hno.out
          have h2 : ¬ 18 + (k : Int) = op := by simpa using he
          show _ ∨ _
          omega
        clear he hT
        go_wp2
        go_round
        case rel => exact ⟨k + 1, by omega, by go_num, H⟩
        case measure => simp [intOf]; omega
    · have e9 : k = 9 := by omega
      have HV : Hid (plainV op = 0) := by
        have h1 := hno.out
        show _ = _
        unfold plainV
        repeat rw [if_neg (by omega)]
      have HB : Hid (plainB op = false) := by
        have h1 := hno.out
        exact decide_eq_false (by omega)
      clear e9
      go_wp2
      go_ret2
      exact ⟨ret_ib2 HV.out.symm HB.out.symm, hB⟩

end Go.Proofs.Ytilphdfobflbiaa
