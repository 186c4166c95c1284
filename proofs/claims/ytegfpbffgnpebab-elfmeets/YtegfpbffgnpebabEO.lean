/-
  Contracts of package elf's Write, of the document's Same, and of the law's one.
-/
import Derived.Test.YtegfpbffgnpebabEN
import Derived.Test.YtegfpbffgnpebabEK
namespace Go.Proofs.Ytegfpbffgnpebab
open Go.RowKit El Go.Lib
open Classical
set_option linter.unusedSimpArgs false

/-- Write's answer: the file's bytes. -/
def wrV (x : Prg) (d : Sure := ⟨Classical.propDecidable⟩) : List UInt8 := if chk x.segs d = 0 then El.wr x else []
theorem write_any (x : Prg) (v : Value) (hfit : ∀ g ∈ x.segs, Fits g) (hd : chk x.segs = 0 → (datas x.segs).length ≤ 1073741824) (w : World) (hS : SlS w v x.segs) :
    Calls Try.prog 9 #[prgV x v] w fun e w' => e = .returned (.tuple #[.string ⟨(wrV x).toArray⟩, .int .i64 (chk x.segs)]) ∧ Below w.heap.size w w' := by
  have b0 : Below w.heap.size w (w.alloc (.cells #[.int .u32 (x.entry.toNat : Int), .int .u32 (x.flags.toNat : Int), v] 29)) := (Below.refl _ w).alloc (Nat.le_refl _) _
  have HC := hideE (check_any x v hfit _ (hS.below b0))
  have HB0 := hideE b0
  have Hx := hideE (heap_alloc_new w (.cells #[.int .u32 (x.entry.toNat : Int), .int .u32 (x.flags.toNat : Int), v] 29))
  have HS := hideE hS
  clear hS hfit b0
  unfold prgV at *
  go_enter Try.func9, Try.ntmps9
  go_wp2_with fail
  refine HC.out.mono ?_
  rintro e w1 ⟨rfl, hb1⟩
  have hbx := keptN hb1 Hx.out
  obtain ⟨⟨a0, a1, a2⟩, _⟩ := three hbx
  have HL := hideE (HB0.out.trans (hb1.mono (by simp)))
  clear HC Hx HB0 hb1
  by_cases h0 : chk x.segs = 0
  · have HW := hideE (written_any x v h0 (hd h0) w1 (HS.out.below HL.out))
    have H0 := hideE h0
    unfold prgV at HW
    rw [h0]
    clear h0 hd
    go_wp2_with fail
    refine HW.out.mono ?_
    rintro e w2 ⟨rfl, hb2⟩
    go_wp2_with fail
    go_ret2
    exact ⟨by unfold wrV; rw [if_pos H0.out, H0.out]; rfl, HL.out.trans (hb2.mono HL.out.size)⟩
  · have H0 := hideE h0
    have hq : (chk x.segs != 0) = true := bne_iff_ne.2 h0
    generalize hk : chk x.segs = k at *
    clear h0 hd
    go_wp2_with fail
    go_ret2
    exact ⟨by unfold wrV; rw [hk, if_neg H0.out]; rfl, HL.out⟩
def sameS (g h : Seg) (d : Sure := ⟨Classical.propDecidable⟩) : Bool := @decide (g = h) (d.of _)
theorem sameS_def (a : BitVec 32) (d : List UInt8) (n f : Int) (a' : BitVec 32) (d' : List UInt8) (n' f' : Int) : sameS ⟨a, d, n, f⟩ ⟨a', d', n', f'⟩ = decide (a = a' ∧ d = d' ∧ n = n' ∧ f = f') := by
  unfold sameS
  exact decide_eq_decide.2 ⟨fun e => by injection e with e1 e2 e3 e4; exact ⟨e1, e2, e3, e4⟩, fun ⟨e1, e2, e3, e4⟩ => by subst e1 e2 e3 e4; rfl⟩
set_option maxRecDepth 100000 in
theorem neqS (a : BitVec 32) (d : List UInt8) (n f : Int) (a' : BitVec 32) (d' : List UInt8) (n' f' : Int) (w : World) :
    (binOp .neq 26 (.agg #[.int .u32 (a.toNat : Int), .string ⟨d.toArray⟩, .int .i64 n, .int .i64 f]) (.agg #[.int .u32 (a'.toNat : Int), .string ⟨d'.toArray⟩, .int .i64 n', .int .i64 f'])).run Try.prog w = .ok (.bool (!sameS ⟨a, d, n, f⟩ ⟨a', d', n', f'⟩)) w := by
  have hA : (a = a') ↔ (a.toNat : Int) = (a'.toNat : Int) := ⟨fun e => by rw [e], fun e => BitVec.eq_of_toNat_eq (by omega)⟩
  rw [sameS_def]
  by_cases h1 : (a.toNat : Int) = (a'.toNat : Int) <;> by_cases h2 : d = d' <;> by_cases h3 : n = n' <;> by_cases h4 : f = f' <;> simp [go_sem, hA, h1, h2, h3, h4]
end Go.Proofs.Ytegfpbffgnpebab
