/-
  Contract of package image's Load: a memory with a program in it.
-/
import Derived.Test.YtkfomhllaogplaaEE
import Derived.Test.YtkfomhllaogplaaEM
import Derived.Test.YtkfomhllaogplaaGB
import Derived.Test.YtkfomhllaogplaaMC
import Derived.Deep.CutRange
namespace Go.Proofs.Ytkfomhllaogplaa
open Go.RowKit El Go.Lib
open Classical
set_option linter.unusedSimpArgs false
set_option linter.unusedVariables false

namespace El
def loadK (l : List Seg) : Nat → Mm.Cs
  | 0 => []
  | k + 1 => match l[k]? with
    | some g => Mm.puts (loadK l k) (g.addr.toNat : Int) g.data g.data.length
    | none => loadK l k
theorem loadK_at {l : List Seg} {k : Nat} {g : Seg} (h : l[k]? = some g) : Mm.puts (loadK l k) (g.addr.toNat : Int) g.data g.data.length = loadK l (k + 1) := by rw [loadK, h]
def memOf (l : List Seg) : Mm.Cs := loadK l l.length
end El
theorem elf_new {w : World} {E F : Int} {v : Value} : ∃ W, W = w.alloc (.cells #[.int .u32 E, .int .u32 F, v] 25) ∧ W.heap[w.heap.size]? = some (.cells #[.int .u32 E, .int .u32 F, v] 25 (0, 0)) ∧ Below w.heap.size w W := ⟨_, rfl, heap_alloc_new w _, (Below.refl _ w).alloc (Nat.le_refl _) _⟩
theorem load_bad (x : Prg) (v : Value) (hfit : ∀ g ∈ x.segs, Fits g) (hc : chk x.segs ≠ 0) (w : World) (hS : SlS w v x.segs) :
    Calls Try.prog 19 #[prgV x v] w fun e w' => e = .returned (.tuple #[.pointer none, .int .i64 (chk x.segs)]) ∧ Below w.heap.size w w' := by
  obtain ⟨p0, c, rfl, _⟩ := hS.len
  obtain ⟨E, hE⟩ : ∃ E : Int, (x.entry.toNat : Int) = E := ⟨_, rfl⟩
  obtain ⟨F, hF⟩ : ∃ F : Int, (x.flags.toNat : Int) = F := ⟨_, rfl⟩
  have hb0 : Below w.heap.size w (w.alloc (.cells #[.int .u32 E, .int .u32 F, .slice p0 x.segs.length c] 25)) := (Below.refl _ w).alloc (Nat.le_refl _) _
  have HCk := hideE (check_any x _ hfit _ (hS.below hb0))
  simp only [prgV] at HCk ⊢
  rw [hE, hF] at HCk ⊢
  have hq : (chk x.segs != 0) = true := bne_iff_ne.2 hc
  clear hS hfit hE hF hc
  generalize hk : chk x.segs = k at *
  clear hk
  go_enter Try.func19, Try.ntmps19
  go_wp2_with fail
  refine HCk.out.mono ?_
  rintro e w1 ⟨rfl, hb1⟩
  have HB := hideE (hb0.trans (hb1.mono (by simp)))
  clear HCk hb1 hb0
  go_wp2_with fail
  go_ret2
  exact ⟨rfl, HB.out⟩
set_option maxRecDepth 100000 in
set_option maxHeartbeats 4000000 in
theorem load_ok (x : Prg) (v : Value) (hfit : ∀ g ∈ x.segs, Fits g) (hd : ∀ g ∈ x.segs, g.data.length ≤ 65536) (hc : chk x.segs = 0) (w : World) (hS : SlS w v x.segs) :
    Calls Try.prog 19 #[prgV x v] w fun e w' => ∃ pb bm : Nat, e = .returned (.tuple #[.pointer (some ⟨pb, 0, none⟩), .int .i64 0]) ∧ MemAt w' pb bm (memOf x.segs) ∧ w.heap.size ≤ pb ∧ w.heap.size ≤ bm ∧ Below w.heap.size w w' := by
  obtain ⟨hl16, hmay, _⟩ := chk_zero hc
  obtain ⟨p0, c, rfl, _⟩ := hS.len
  obtain ⟨E, hE⟩ : ∃ E : Int, (x.entry.toNat : Int) = E := ⟨_, rfl⟩
  obtain ⟨F, hF⟩ : ∃ F : Int, (x.flags.toNat : Int) = F := ⟨_, rfl⟩
  have hb0 : Below w.heap.size w (w.alloc (.cells #[.int .u32 E, .int .u32 F, .slice p0 x.segs.length c] 25)) := (Below.refl _ w).alloc (Nat.le_refl _) _
  have hbx := heap_alloc_new w (.cells #[.int .u32 E, .int .u32 F, .slice p0 x.segs.length c] 25)
  have HCk := hideE (check_any x _ hfit _ (hS.below hb0))
  have HS := hideE hS
  have HD := hideE hd
  simp only [prgV] at HCk ⊢
  rw [hE, hF, hc] at HCk
  rw [hE, hF]
  obtain ⟨l, hL⟩ : ∃ l, x.segs = l := ⟨_, rfl⟩
  rw [hL] at HCk HS HD hl16 hb0 hbx ⊢
  clear hS hfit hE hF hc hmay hd hL
  go_enter Try.func19, Try.ntmps19
  go_wp2_with fail
  refine HCk.out.mono ?_
  rintro e w1 ⟨rfl, hb1⟩
  obtain ⟨⟨a0, a1, a2⟩, _⟩ := three (keptN hb1 hbx)
  have hbx1 := keptN hb1 hbx
  have HB := hideE (hb0.trans (hb1.mono (by simp)))
  clear HCk hb1 hb0 hbx
  go_wp2_with fail
  refine (new_any w1).mono ?_
  rintro e w2 ⟨rfl, hm2, hb2, hsz⟩
  obtain ⟨⟨a0, a1, a2⟩, _⟩ := three (keptN hb2 hbx1)
  have hp : w.heap.size ≤ w1.heap.size := HB.out.size
  have HM := hideE hm2
  have HB2 := hideE (HB.out.trans (hb2.mono HB.out.size))
  clear hm2 hb2 hbx1 HB
  go_wp2_with fail
  go_loopg [17] l.length (fun q i wr => ∃ k : Nat, k + q = l.length ∧ i = .int .i64 (k : Int) ∧ MemAt wr (w1.heap.size + 1) w1.heap.size (loadK l k) ∧ Below w.heap.size w wr)
  case atStart => exact ⟨0, by omega, rfl, HM.out, HB2.out⟩
  case round =>
    clear HM HB2 a0 a1 a2
    obtain ⟨k, hkq, rfl, hm, hB⟩ := hrel
    cases gk with
    | zero =>
      obtain rfl : k = l.length := by omega
      have hk : ¬ ((l.length : Int) < (l.length : Int)) := by omega
      have HM := hideE hm
      have HB := hideE hB
      clear hm hB
      go_wp2_with fail
      go_ret2
      first | exact ⟨_, _, rfl, HM.out, by omega, by omega, HB.out⟩ | exact ⟨_, rfl, _, HM.out, by omega, by omega, HB.out⟩
    | succ q =>
      have hk : ((k : Int) < (l.length : Int)) := by omega
      have hk0 : (0 : Int) ≤ (k : Int) := by omega
      have hwk : IntKind.i64.wrap ((k : Int) + 1) = (k : Int) + 1 := wrE (by omega) (by omega)
      obtain ⟨y, hy⟩ : ∃ y, l[k]? = some y := ⟨l[k]'(by omega), List.getElem?_eq_getElem (by omega)⟩
      obtain ⟨g, o, rfl⟩ := sls_some HS.out (by omega)
      obtain ⟨hcs, _⟩ := slsCells (HS.out.below hB) (by omega)
      obtain ⟨b0, b1, b2, b3⟩ := SlS.at hcs k y hy
      have hdy := HD.out y (List.mem_of_getElem? hy)
      have HP := hideE (loadK_at hy)
      have ha := y.addr.isLt
      have HM := hideE hm
      have HB := hideE hB
      clear hy hcs hB hm
      go_wp2_with (go_at_call 24; refine (mput_any _ (HM.out.below ((Below.refl _ _).alloc (Nat.le_refl _) _)) (by omega) (by show y.data.length ≤ _; omega)).mono ?_; rintro e w3 ⟨rfl, hm3, hg3⟩)
      go_roundg q
      case measure => omega
      case rel =>
        refine ⟨k + 1, by omega, by simp, ?_, ?_⟩
        · rw [← HP.out]; exact hm3
        · exact (HB.out.alloc HB.out.size _).grown hg3 (by simp; have := HB.out.size; omega) (fun j e => by injection e with e; omega)
end Go.Proofs.Ytkfomhllaogplaa
