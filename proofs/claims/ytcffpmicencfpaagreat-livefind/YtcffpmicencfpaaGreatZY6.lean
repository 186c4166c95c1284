/-
  Slices of instructions: cut, laid behind an own row.
-/

import Derived.Test.YtcffpmicencfpaaGreatZD6
import Derived.Test.YtcffpmicencfpaaGreatZY4
namespace Go.Proofs.YtcffpmicencfpaaGreat
open Go.RowKit Go.Lib Go.Sort Ip Bl Lv Pm
set_option linter.unusedSimpArgs false
set_option linter.unusedVariables false

theorem add_mid (g o j : Nat) : (⟨g, o, none⟩ : Addr).add j = ⟨g, o + j, none⟩ := by unfold Addr.add; split <;> simp_all
theorem one_insts (l : List Ins) : ∀ x ∈ csN l, x.oneCell' = true := fun x hx => by
  unfold csN at hx
  obtain ⟨y, _, hy⟩ := List.mem_flatMap.1 hx
  simp only [List.mem_cons, List.not_mem_nil, or_false] at hy
  rcases hy with rfl | rfl | rfl | rfl | rfl <;> rfl
theorem newsN_of {W : World} {ad : Addr} {n c : Nat} {l : List Ins} (h : SlN W (.slice (some ad) n c) l) : ∀ (j : Nat) (x : Value), (csN l)[j]? = some x → W.cell? (ad.add j) = some x := fun j x hj => by
  rcases h with ⟨_, _, _, rfl⟩ | ⟨g, o, cap, e, hg, hc⟩
  · simp [csN] at hj
  · injection e with e1 e2 e3
    injection e1 with e1
    subst e1
    have hl := (List.getElem?_eq_some_iff.1 hj).1
    rw [csN_len] at hl
    rw [add_mid, hc j hl]; exact hj
set_option maxRecDepth 100000 in
theorem wpList_append_insts {ops : Array Oper} {rest : List Oper} {o : Oper} {a : Act} {w : World} {Q : Exit → Act → World → Prop} (hgd : o.guard = none) (s x : Operand)
    (ho : o.op = .call { callee := .builtin .append, args := #[s, x], argTypes := #[40, 40] })
    (B : Nat) (v : Value) (n : Nat) (xs : List Value) (hs : a.eval s = v) (hown : w.ownsRow B 47 5 v n xs) (u : Value) (l : List Ins) (hx : a.eval x = u) (hS : SlN w u l) (hp : SlP u)
    (hb : n + l.length ≤ 1000000) (hB : B ≤ w.heap.size)
    (h : ∀ v' w', w'.ownsRow B 47 5 v' (n + l.length) (xs ++ csN l) → w.grownBy w' v.ownBlock → wpList Tryz.prog ops Q rest (a.put o.dst v') w') : wpList Tryz.prog ops Q (o :: rest) a w := by
  obtain ⟨i0, hii, hz0, hz1, hz2⟩ := info_parts infoN
  rcases hp with rfl | ⟨ad, m, c, rfl⟩
  · have h0 : l = [] := by
      rcases hS with ⟨p', c', _, h⟩ | ⟨g, o, cap, e1, _⟩
      · exact h
      · cases e1
    subst h0
    exact wpList_append_own_none hgd s x 40 ho B 47 i0 5 Tryz.underlying40 hii v n xs hs hown hx (h v w (by simpa [csN] using hown) (grown_refl _ _))
  · have hn : l.length = m := by
      rcases hS with ⟨p', c', e1, rfl⟩ | ⟨g, o, cap, e1, _⟩
      · injection e1 with _ e2 _; simp [e2]
      · injection e1 with _ e2 _; exact e2.symm
    subst hn
    exact wpList_append_own _ hgd s x 40 ho B 47 i0 (.agg #[.int .i64 0, .int .i64 0, .int .i64 0, .int .i64 0, .int .i64 0]) 5 40 Tryz.underlying40 hii hz0 hz1 hz2 rfl (by decide) v n xs hs hown ad l.length c (csN l) hx (by rw [csN_len]) (newsN_of hS) (one_insts _) (by unfold maxLen; omega) (by omega) hB fun v' w' h2 h3 _ => h v' w' h2 h3
theorem slpN_cut {p : Option Addr} {n k c : Nat} (nil : ∀ n' c', Value.slice p n c = .slice none n' c' → c' = 0) (hk : k ≤ n) (hn : n ≤ c) : SlP (.slice p k c) := by
  cases p with
  | none =>
    have h0 := nil n c rfl
    obtain rfl : k = 0 := by omega
    subst h0
    exact .inl rfl
  | some a => exact .inr ⟨_, _, _, rfl⟩
theorem sln_nil (W : World) : SlN W (.slice none 0 0) [] := .inl ⟨none, 0, rfl, rfl⟩
theorem ownN_at {W : World} {B : Nat} {v : Value} {n : Nat} {xs : List Value} {l : List Ins} (h : W.ownsRow B 47 5 v n xs) (m : Nat) (hn : n = m) (hx : xs = csN l) : W.ownsRow B 47 5 v m (csN l) := by
  subst hn hx; exact h
end Go.Proofs.YtcffpmicencfpaaGreat
