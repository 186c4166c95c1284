/-
  Copy and Bytes of a memory; what is written into the library's builder.
  Bytes of a memory.
  The calls whose answers the document fixes: they answer so.
  Plain facts on what was put, stored and read: byte by byte.
  Plain facts of numbers and bytes in a memory, and the contracts of Load and Bytes that hide what they answer behind a name.
  A script (a slice of calls, structs of five cells) among a law's arguments: read, kept, and read again.
-/
import Derived.Test.YtkfomhllaogplaaMC
import Derived.Test.YtkfomhllaogplaaShelf
import Derived.Shelf.SlMaps.Clone
import Derived.Test.YtkfomhllaogplaaZSf
import Derived.Test.YtkfomhllaogplaaMF
import Derived.Test.YtkfomhllaogplaaRows
import Derived.WalkKit
import Derived.ProofKit
import Derived.OpenShut
import Derived.Below
import Derived.Deep.Slices
import Derived.ChangeSame
import Derived.ChangeMaps
namespace Go.Proofs.Ytkfomhllaogplaa
open Go.RowKit Go.Maps Go.Shelf Mm

/-! ### the builder -/
def wbRen : Go.Shelf.Ren := ⟨fun | 167 => 50 | 240 => 64 | 276 => 69 | n => n, fun | 70 => 90 | 0 => 0 | 4 => 4 | 9 => 9 | 20 => 20 | 72 => 92 | 37 => 58 | 164 => 115 | 5 => 5 | 75 => 94 | 80 => 97 | n => n, fun | n => n⟩
theorem wbLays : Lays.n167 Try.prog wbRen := {
  mixed := by kernel_rfl
  f167 := Try.func50.trans (congrArg some (by kernel_rfl))
  f240 := Try.func64.trans (congrArg some (by kernel_rfl))
  f276 := Try.func69.trans (congrArg some (by kernel_rfl))
  t0 := Try.underlying0
  a0 := Try.isAgg0
  z0 := Try.sizeOf0
  v0 := Try.zeroValue0
  t4 := Try.underlying4
  a4 := Try.isAgg4
  z4 := Try.sizeOf4
  v4 := Try.zeroValue4
  t5 := Try.underlying5
  a5 := Try.isAgg5
  z5 := Try.sizeOf5
  v5 := Try.zeroValue5
  t9 := Try.underlying9
  a9 := Try.isAgg9
  z9 := Try.sizeOf9
  v9 := Try.zeroValue9
  t20 := Try.underlying20
  a20 := Try.isAgg20
  z20 := Try.sizeOf20
  v20 := Try.zeroValue20
  t37 := Try.underlying58
  a37 := Try.isAgg58
  z37 := Try.sizeOf58
  v37 := Try.zeroValue58
  t70 := Try.underlying90
  a70 := Try.isAgg90
  z70 := Try.sizeOf90
  v70 := Try.zeroValue90
  t72 := Try.underlying92
  a72 := Try.isAgg92
  z72 := Try.sizeOf92
  v72 := Try.zeroValue92
  t75 := Try.underlying94
  a75 := Try.isAgg94
  z75 := Try.sizeOf94
  v75 := Try.zeroValue94
  t164 := Try.underlying115
  a164 := Try.isAgg115
  z164 := Try.sizeOf115
  v164 := Try.zeroValue115 }
theorem wbExtra : Builder.Extra Try.prog wbRen := {
  sizeBuilder := by kernel_rfl
  liesBuilder := by kernel_rfl
  t5 := Try.underlying5
  a5 := Try.isAgg5
  z5 := Try.sizeOf5
  v5 := Try.zeroValue5
  infoByte := by kernel_rfl
  cellsByte := by kernel_rfl
  sizeByte := by kernel_rfl
  neB5 := by decide }
theorem write_u (B b : Nat) (bs : List Value) (c : Int) (w : World) (h : Lib.IsBuilder 92 5 B b bs w) (hlen : bs.length + 1 ≤ 140737488355328) (hBw : B ≤ w.heap.size) :
    Calls Try.prog 50 #[.pointer (some ⟨b, 0, none⟩), .int .u8 c] w fun e w' => e = .returned .nilIface ∧ (Lib.BuilderAt 92 5 B b (.pointer (some ⟨b, 0, none⟩)) (bs ++ [.int .u8 c]) w' ∧ Below B w w') :=
  Any.Builder_WriteByte wbLays wbExtra B b bs c w h hlen hBw
end Go.Proofs.Ytkfomhllaogplaa
namespace Go.Proofs.Ytkfomhllaogplaa
open Go.RowKit Go.Maps Go.Shelf Mm

namespace Mm
def byteAt (l : Cs) (a : Int) (i : Nat) : UInt8 := UInt8.ofNat (look l ((a + i) % 4294967296)).toNat
def bytesOf (l : Cs) (a : Int) (n : Nat) : List UInt8 := (List.range n).map (byteAt l a)
theorem bytesOf_succ (l : Cs) (a : Int) (n : Nat) : bytesOf l a (n + 1) = bytesOf l a n ++ [byteAt l a n] := by simp [bytesOf, List.range_succ]
theorem bytesOf_len (l : Cs) (a : Int) (n : Nat) : (bytesOf l a n).length = n := by simp [bytesOf]
theorem byteAt_val {l : Cs} (h : Rise l) (a : Int) (i : Nat) : ((byteAt l a i).toNat : Int) = look l ((a + i) % 4294967296) := by
  have := look_range h ((a + i) % 4294967296)
  unfold byteAt
  rw [UInt8.toNat_ofNat']
  omega
theorem bytesOf_cells {l : Cs} (h : Rise l) (a : Int) (n : Nat) : Lib.byteCells (bytesOf l a n) ++ [.int .u8 (look l ((a + n) % 4294967296))] = Lib.byteCells (bytesOf l a (n + 1)) := by
  rw [bytesOf_succ, Lib.byteCells_append, ← byteAt_val h]; rfl
end Mm

end Go.Proofs.Ytkfomhllaogplaa
namespace Go.Proofs.Ytkfomhllaogplaa
open Go.RowKit Go.Maps Mm

/-- The same, the blocks' numbers as letters. -/
theorem new_op (w : World) : Calls Try.prog 36 #[] w fun e w' => ∃ pb bm : Nat, e = .returned (.pointer (some ⟨pb, 0, none⟩)) ∧ MemAt w' pb bm [] ∧ w.heap.size ≤ pb ∧ w.heap.size ≤ bm ∧ Below w.heap.size w w' :=
  (new_any w).mono fun _ _ ⟨he, hm, hb, _⟩ => ⟨_, _, he, hm, by omega, by omega, hb⟩
theorem MemAt.apart {w w' : World} {pb bm b : Nat} {l : Cs} (h : MemAt w pb bm l) (hg : w.grownBy w' (some b)) (h1 : pb ≠ b) (h2 : bm ≠ b) : MemAt w' pb bm l := h.kept hg (by simpa using h1) (by simpa using h2)
theorem drewN_below (w : World) (n B : Nat) : Below B w (w.drewN n) := ⟨rfl, rfl, rfl, Nat.le_refl _, fun _ _ => rfl⟩

def fxL : Cs := [(0, 18), (4294967295, 52)]
theorem fx_sto : sto [] 4294967295 4660 (2 : Int).toNat = fxL := by decide +kernel
theorem fx_num : num fxL 0 (1 : Int).toNat = 18 := by decide +kernel
theorem fx_bytes : bytesOf fxL 4294967295 3 = [52, 18, 0] := by decide +kernel

theorem grown_below {w w' : World} {b B : Nat} (h : w.grownBy w' (some b)) (hB : B ≤ b) (hs : B ≤ w.heap.size) : Below B w w' := (Below.refl B w).grown h hs (fun k e => by cases e; exact hB)

end Go.Proofs.Ytkfomhllaogplaa
namespace Go.Proofs.Ytkfomhllaogplaa
open Go.RowKit Go.Maps Mm

namespace Mm
/-- How far behind a an address lies. -/
def far (x a : Int) : Nat := ((x - a) % 4294967296).toNat
theorem far_add {a : Int} {i : Nat} (hi : i < 4294967296) : far ((a + i) % 4294967296) a = i := by unfold far; omega
theorem look_out {l : Cs} (h : Rise l) {x : Int} (hx : ¬ (0 ≤ x ∧ x < 4294967296)) : look l x = 0 := look_none fun p hp e => by have := h.ok p hp; omega
theorem look_puts {l : Cs} {a : Int} {s : List UInt8} {x : Int} (hx : 0 ≤ x ∧ x < 4294967296) : ∀ k : Nat, k ≤ 65536 → look (puts l a s k) x = if far x a < k then ((s.getD (far x a) 0).toNat : Int) else look l x
  | 0, _ => by simp [puts]
  | k + 1, hk => by
    have ih := @look_puts l a s x hx k (by omega)
    unfold puts
    rw [look_set, ih]
    have hf : far x a = ((x - a) % 4294967296).toNat := rfl
    by_cases h : x = (a + k) % 4294967296
    · have e : far x a = k := by omega
      rw [if_pos h, e, if_pos (by omega)]
    · have e : far x a ≠ k := by omega
      rw [if_neg h]
      by_cases h2 : far x a < k
      · rw [if_pos h2, if_pos (by omega)]
      · rw [if_neg h2, if_neg (by omega)]
theorem look_sto {l : Cs} {a v : Int} {x : Int} (hx : 0 ≤ x ∧ x < 4294967296) : ∀ k : Nat, k ≤ 4 → look (sto l a v k) x = if far x a < k then v / 256 ^ far x a % 256 else look l x
  | 0, _ => by simp [sto]
  | k + 1, hk => by
    have ih := @look_sto l a v x hx k (by omega)
    unfold sto
    rw [look_set, ih]
    have hf : far x a = ((x - a) % 4294967296).toNat := rfl
    by_cases h : x = (a + k) % 4294967296
    · have e : far x a = k := by omega
      rw [if_pos h, e, if_pos (by omega)]
    · have e : far x a ≠ k := by omega
      rw [if_neg h]
      by_cases h2 : far x a < k
      · rw [if_pos h2, if_pos (by omega)]
      · rw [if_neg h2, if_neg (by omega)]
theorem ext' {l l' : Cs} (h : Rise l) (h' : Rise l') (e : ∀ x, 0 ≤ x ∧ x < 4294967296 → look l x = look l' x) : l = l' :=
  ext h h' fun x => by
    by_cases hx : 0 ≤ x ∧ x < 4294967296
    · exact e x hx
    · rw [look_out h hx, look_out h' hx]
theorem byte_ofNat (c : UInt8) : UInt8.ofNat ((c.toNat : Int).toNat) = c := by rw [Int.toNat_natCast]; exact UInt8.ofNat_toNat
/-- What was put is read. -/
theorem bytes_puts (l : Cs) (a : Int) (s : List UInt8) (n : Nat) (hn : n ≤ s.length) (hn2 : n ≤ 65536) (k : Nat) (hk : n ≤ k) (hk2 : k ≤ 65536) : bytesOf (puts l a s k) a n = s.take n := by
  apply List.ext_getElem
  · rw [bytesOf_len, List.length_take]; omega
  · intro i h1 h2
    rw [bytesOf_len] at h1
    rw [List.getElem_take]
    simp only [bytesOf, List.getElem_map, List.getElem_range, byteAt]
    rw [look_puts (by omega) k hk2, far_add (by omega), if_pos (by omega), List.getD_eq_getElem?_getD, List.getElem?_eq_getElem (by omega)]
    exact byte_ofNat _
theorem bytes_all (a : Int) (t : ByteArray) (h : t.size ≤ 65536) : (⟨(bytesOf (puts [] a t.data.toList t.size) a t.size).toArray⟩ : ByteArray) = t := by
  have e : t.size = t.data.toList.length := by simp
  rw [bytes_puts [] a t.data.toList t.size (by omega) h t.size (Nat.le_refl _) h, e, List.take_length]
/-- Noughts put over what was put. -/
theorem puts_zero (a : Int) (s z : List UInt8) (n : Nat) (hn : n ≤ 65536) (hz : ∀ i, z.getD i 0 = 0) : puts (puts [] a s n) a z n = [] := by
  refine ext' (rise_puts (rise_puts rise_nil _ _ _) _ _ _) rise_nil fun x hx => ?_
  rw [look_puts hx n hn, look_puts hx n hn]
  by_cases h : far x a < n
  · rw [if_pos h, hz]; rfl
  · rw [if_neg h, if_neg h]
end Mm

end Go.Proofs.Ytkfomhllaogplaa
namespace Go.Proofs.Ytkfomhllaogplaa
open Go.RowKit Go.Maps Mm

/-- v is the number at a, n bytes wide: behind a name, that the walk does not rewrite by it. -/
def NumIs (v : Int) (l : Cs) (a : Int) (n : Nat) : Prop := v = num l a n
def TextIs (t : ByteArray) (l : Cs) (a : Int) (n : Nat) : Prop := t = ⟨(bytesOf l a n).toArray⟩
theorem load_op {pb bm : Nat} {l : Cs} {a n : Int} (w : World) (h : MemAt w pb bm l) (ha : 0 ≤ a ∧ a < 4294967296) (hn : n = 1 ∨ n = 2 ∨ n = 4) :
    Calls Try.prog 25 #[.pointer (some ⟨pb, 0, none⟩), .int .u32 a, .int .i64 n] w fun e w' => ∃ v, e = .returned (.tuple #[.int .u32 v, .int .i64 0]) ∧ NumIs v l a n.toNat ∧ w' = w :=
  (load_any w h ha hn).mono fun _ _ h => ⟨_, h.1, rfl, h.2⟩
theorem wrap32 {x : Int} (h : 0 ≤ x ∧ x < 4294967296) : IntKind.u32.wrap x = x := by
  have : IntKind.u32.wrap x = x % 4294967296 := rfl
  omega
theorem num_two (l : Cs) (a : Int) (h : 0 ≤ a ∧ a < 4294967296) : num l a 2 = Mm.look l a + Mm.look l ((a + 1) % 4294967296) * 256 := by
  have e : (a + ((0 : Nat) : Int)) % 4294967296 = a := by omega
  show (0 + Mm.look l ((a + ((0 : Nat) : Int)) % 4294967296) * 256 ^ 0) + Mm.look l ((a + 1) % 4294967296) * 256 ^ 1 = _
  rw [e]; omega
theorem num_four (l : Cs) (a : Int) (h : 0 ≤ a ∧ a < 4294967296) : num l a 4 = Mm.look l a + Mm.look l ((a + 1) % 4294967296) * 256 + Mm.look l ((a + 2) % 4294967296) * 65536 + Mm.look l ((a + 3) % 4294967296) * 16777216 := by
  have e := num_two l a h
  show num l a 2 + Mm.look l ((a + 2) % 4294967296) * 256 ^ 2 + Mm.look l ((a + 3) % 4294967296) * 256 ^ 3 = _
  rw [e]; omega
theorem split_num {L : Cs} (hr : Rise L) {c V X Y : Int} (hc : 0 ≤ c ∧ c < 4294967296) (hV : NumIs V L c (4 : Int).toNat) (hX : NumIs X L c (2 : Int).toNat) (hY : NumIs Y L ((c + 2) % 4294967296) (2 : Int).toNat) :
    bits .or .u32 X (IntKind.u32.wrap (Y * 65536)) = V := by
  have hV : V = num L c 4 := hV
  have hX : X = num L c 2 := hX
  have hY : Y = num L ((c + 2) % 4294967296) 2 := hY
  rw [num_four L c hc] at hV
  rw [num_two L c hc] at hX
  rw [num_two L _ (by omega), show ((c + 2) % 4294967296 + 1) % 4294967296 = (c + 3) % 4294967296 by omega] at hY
  have r0 := look_range hr c
  have r1 := look_range hr ((c + 1) % 4294967296)
  have r2 := look_range hr ((c + 2) % 4294967296)
  have r3 := look_range hr ((c + 3) % 4294967296)
  rw [wrap32 (by omega)]
  obtain ⟨x, ex⟩ := Int.eq_ofNat_of_zero_le (a := X) (by omega)
  obtain ⟨y, ey⟩ := Int.eq_ofNat_of_zero_le (a := Y) (by omega)
  have := or_nat x y 16 (by omega) (by omega) (by omega)
  rw [ex, ey, show (y : Int) * 65536 = ((y * 2 ^ 16 : Nat) : Int) by omega, this]; omega
theorem text_at {u : ByteArray} {L : Cs} {c : Int} {n : Nat} (hr : Rise L) (hu : TextIs u L c n) (i : Nat) (hi : i < u.size) : ((u[i]'hi).toNat : Int) = Mm.look L ((c + i) % 4294967296) := by
  unfold TextIs at hu
  subst hu
  have e : (⟨(bytesOf L c n).toArray⟩ : ByteArray)[i] = byteAt L c i := by
    show (bytesOf L c n).toArray[i] = _
    rw [List.getElem_toArray]; simp [bytesOf]
  rw [e, byteAt_val hr]
theorem split_text {L : Cs} (hr : Rise L) {c V : Int} {u : ByteArray} (hc : 0 ≤ c ∧ c < 4294967296) (hV : NumIs V L c (4 : Int).toNat) (hu : TextIs u L c (4 : Int).toNat) (h : u.size = 4) :
    bits .or .u32 (bits .or .u32 (bits .or .u32 (IntKind.u32.wrap ((u[0]'(by omega)).toNat : Int)) (IntKind.u32.wrap (IntKind.u32.wrap ((u[1]'(by omega)).toNat : Int) * 256)))
      (IntKind.u32.wrap (IntKind.u32.wrap ((u[2]'(by omega)).toNat : Int) * 65536))) (IntKind.u32.wrap (IntKind.u32.wrap ((u[3]'(by omega)).toNat : Int) * 16777216)) = V := by
  have hV : V = num L c 4 := hV
  rw [num_four L c hc] at hV
  have r0 := look_range hr c
  have r1 := look_range hr ((c + 1) % 4294967296)
  have r2 := look_range hr ((c + 2) % 4294967296)
  have r3 := look_range hr ((c + 3) % 4294967296)
  have e0 := text_at hr hu 0 (by omega)
  have e1 := text_at hr hu 1 (by omega)
  have e2 := text_at hr hu 2 (by omega)
  have e3 := text_at hr hu 3 (by omega)
  rw [show (c + ((0 : Nat) : Int)) % 4294967296 = c by omega] at e0
  rw [show (c + ((1 : Nat) : Int)) % 4294967296 = (c + 1) % 4294967296 from rfl] at e1
  rw [show (c + ((2 : Nat) : Int)) % 4294967296 = (c + 2) % 4294967296 from rfl] at e2
  rw [show (c + ((3 : Nat) : Int)) % 4294967296 = (c + 3) % 4294967296 from rfl] at e3
  rw [e0, e1, e2, e3, hV]
  generalize Mm.look L c = x0 at *
  generalize Mm.look L ((c + 1) % 4294967296) = x1 at *
  generalize Mm.look L ((c + 2) % 4294967296) = x2 at *
  generalize Mm.look L ((c + 3) % 4294967296) = x3 at *
  rw [wrap32 (x := x0) (by omega), wrap32 (x := x1) (by omega), wrap32 (x := x2) (by omega), wrap32 (x := x3) (by omega), wrap32 (x := x1 * 256) (by omega), wrap32 (x := x2 * 65536) (by omega), wrap32 (x := x3 * 16777216) (by omega)]
  rw [or_1 x0 x1 (by omega) (by omega), or_2 (x0 + x1 * 256) x2 (by omega) (by omega), or_3 _ x3 (by omega) (by omega)]

theorem ins_len (a c : Int) : ∀ l : Cs, (ins a c l).length ≤ l.length + 1
  | [] => by simp [ins]
  | p :: r => by
    have := ins_len a c r
    unfold ins; split
    · simp
    · split
      · simp
      · simp; omega
theorem set_len (l : Cs) (a c : Int) : (Mm.set l a c).length ≤ l.length + 1 := by
  unfold Mm.set; split
  · unfold del; have := List.length_filter_le (fun p : Int × Int => !(p.1 == a)) l; omega
  · exact ins_len a c l
theorem puts_len (a : Int) (s : List UInt8) : ∀ n : Nat, (puts [] a s n).length ≤ n
  | 0 => by simp [puts]
  | n + 1 => by
    have := puts_len a s n
    unfold puts
    have := set_len (puts [] a s n) ((a + n) % 4294967296) ((s.getD n 0).toNat : Int)
    omega
theorem and_mask (v : Int) (k : Nat) (hk : k ≤ 31) (h : 0 ≤ v ∧ v < 4294967296) : bits .and .u32 v ((2 ^ k - 1 : Nat) : Int) = v % ((2 ^ k : Nat) : Int) := by
  obtain ⟨x, rfl⟩ := Int.eq_ofNat_of_zero_le h.1
  have hp : 2 ^ k ≤ 2 ^ 31 := Nat.pow_le_pow_right (by omega) hk
  rw [u32_and_nat x (2 ^ k - 1) (by omega) (by omega), Nat.and_two_pow_sub_one_eq_mod]
  exact Int.natCast_emod x (2 ^ k)
theorem and_255 (v : Int) (h : 0 ≤ v ∧ v < 4294967296) : bits .and .u32 v 255 = v % 256 := and_mask v 8 (by omega) h
theorem and_65535 (v : Int) (h : 0 ≤ v ∧ v < 4294967296) : bits .and .u32 v 65535 = v % 65536 := and_mask v 16 (by omega) h
theorem look_sto_at {l : Cs} {x v : Int} (i : Nat) (hi : i < 4) : Mm.look (sto l x v 4) ((x + i) % 4294967296) = v / 256 ^ i % 256 := by
  rw [look_sto (by omega) 4 (by omega), far_add (by omega), if_pos hi]
theorem num_sto {l : Cs} {x v : Int} (hx : 0 ≤ x ∧ x < 4294967296) (hv : 0 ≤ v ∧ v < 4294967296) : num (sto l x v 4) x 4 = v := by
  have e0 := look_sto_at (l := l) (x := x) (v := v) 0 (by omega)
  have e1 := look_sto_at (l := l) (x := x) (v := v) 1 (by omega)
  have e2 := look_sto_at (l := l) (x := x) (v := v) 2 (by omega)
  have e3 := look_sto_at (l := l) (x := x) (v := v) 3 (by omega)
  rw [show (x + ((0 : Nat) : Int)) % 4294967296 = x by omega] at e0
  rw [show (x + ((1 : Nat) : Int)) % 4294967296 = (x + 1) % 4294967296 from rfl] at e1
  rw [show (x + ((2 : Nat) : Int)) % 4294967296 = (x + 2) % 4294967296 from rfl] at e2
  rw [show (x + ((3 : Nat) : Int)) % 4294967296 = (x + 3) % 4294967296 from rfl] at e3
  rw [num_four _ x hx, e0, e1, e2, e3]; omega
theorem num_sto_1 {l : Cs} {x v : Int} : num (sto l x v 4) x 1 = v % 256 := by
  have e0 := look_sto_at (l := l) (x := x) (v := v) 0 (by omega)
  show 0 + Mm.look (sto l x v 4) ((x + ((0 : Nat) : Int)) % 4294967296) * 256 ^ 0 = _
  rw [e0]; omega
theorem num_sto_2 {l : Cs} {x v : Int} : num (sto l x v 4) ((x + 1) % 4294967296) 2 = v / 256 % 65536 := by
  have e1 := look_sto_at (l := l) (x := x) (v := v) 1 (by omega)
  have e2 := look_sto_at (l := l) (x := x) (v := v) 2 (by omega)
  rw [show (x + ((1 : Nat) : Int)) % 4294967296 = (x + 1) % 4294967296 from rfl] at e1
  rw [show (x + ((2 : Nat) : Int)) % 4294967296 = (x + 2) % 4294967296 from rfl] at e2
  rw [num_two _ _ (by omega), show ((x + 1) % 4294967296 + 1) % 4294967296 = (x + 2) % 4294967296 by omega, e1, e2]; omega
/-- The bytes beside what was stored are those that were put. -/
theorem bytes_beside (a v : Int) (s : List UInt8) (o n : Nat) (hs : s.length ≤ 30) (hn : o + n ≤ s.length) (h : o + n ≤ 7 ∨ 11 ≤ o) :
    bytesOf (sto (puts [] a s s.length) ((a + 7) % 4294967296) v 4) ((a + o) % 4294967296) n = (s.drop o).take n := by
  apply List.ext_getElem
  · rw [bytesOf_len, List.length_take, List.length_drop]; omega
  · intro i h1 h2
    rw [bytesOf_len] at h1
    have e : (bytesOf (sto (puts [] a s s.length) ((a + 7) % 4294967296) v 4) ((a + o) % 4294967296) n)[i]'(by rw [bytesOf_len]; exact h1) = byteAt (sto (puts [] a s s.length) ((a + 7) % 4294967296) v 4) ((a + o) % 4294967296) i := by simp [bytesOf]
    rw [e, List.getElem_take, List.getElem_drop]
    unfold byteAt
    rw [show ((a + (o : Int)) % 4294967296 + (i : Int)) % 4294967296 = (a + ((o + i : Nat) : Int)) % 4294967296 by omega]
    rw [look_sto (by omega) 4 (by omega), if_neg (by unfold far; omega), look_puts (by omega) _ (by omega), far_add (by omega), if_pos (by omega)]
    rw [List.getD_eq_getElem?_getD, List.getElem?_eq_getElem (by omega)]
    exact byte_ofNat _
end Go.Proofs.Ytkfomhllaogplaa
namespace Go.Proofs.Ytkfomhllaogplaa
open Go.ChangeShapes Go.WideShapes Go.ChangeAt Go.RowKit Go.Deep

/-- A call of a script. -/
structure Rec where
  k : Int
  n : Int
  a : Int
  v : Int
  s : ByteArray
/-- The five cells of a call, and what they are. -/
structure OpAt (w : World) (b o : Nat) (r : Rec) : Prop where
  c0 : w.cell? ⟨b, o, none⟩ = some (.int .i64 r.k)
  c1 : w.cell? ⟨b, o + 1, none⟩ = some (.int .i64 r.n)
  c2 : w.cell? ⟨b, o + 2, none⟩ = some (.int .u32 r.a)
  c3 : w.cell? ⟨b, o + 3, none⟩ = some (.int .u32 r.v)
  c4 : w.cell? ⟨b, o + 4, none⟩ = some (.string r.s)
  wk : (Lit.int .i64 r.k).wf = true
  wn : (Lit.int .i64 r.n).wf = true
  wa : (Lit.int .u32 r.a).wf = true
  wv : (Lit.int .u32 r.v).wf = true
  ws : r.s.size ≤ maxLen
/-- The value is a slice of n calls. -/
def Script (w : World) (x : Value) (n : Nat) (ops : Nat → Rec) : Prop :=
  ∃ ad cap, x = .slice ad n cap ∧ ∀ i, i < n → ∃ b o, ad = some ⟨b, o, none⟩ ∧ OpAt w b (o + i * 5) (ops i)

theorem cell_lt {w : World} {a : Addr} {v : Value} (h : w.cell? a = some v) : a.block < w.heap.size := by
  unfold World.cell? at h
  split at h
  · rename_i e; exact (Array.getElem?_eq_some_iff.1 e).1
  · cases h
theorem cell_spot {w : World} {a : Addr} {v : Value} (h : w.cell? a = some v) : a.spot = none := by
  unfold World.cell? at h
  split at h
  · split at h
    · cases h
    · rename_i hs; simpa using hs
  · cases h
theorem cell_below {w w' : World} (h : Below w.heap.size w w') {a : Addr} {v : Value} (hc : w.cell? a = some v) : w'.cell? a = some v := by
  have hl := cell_lt hc
  unfold World.cell? at hc ⊢
  rw [h.block _ hl]; exact hc
theorem OpAt.below {w w' : World} {b o : Nat} {r : Rec} (x : OpAt w b o r) (h : Below w.heap.size w w') : OpAt w' b o r :=
  ⟨cell_below h x.c0, cell_below h x.c1, cell_below h x.c2, cell_below h x.c3, cell_below h x.c4, x.wk, x.wn, x.wa, x.wv, x.ws⟩
theorem Script.below {w w' : World} {x : Value} {n : Nat} {ops : Nat → Rec} (s : Script w x n ops) (h : Below w.heap.size w w') : Script w' x n ops := by
  obtain ⟨ad, cap, e, f⟩ := s
  exact ⟨ad, cap, e, fun i hi => by obtain ⟨b, o, e, g⟩ := f i hi; exact ⟨b, o, e, g.below h⟩⟩

theorem cellsI3 : Try.prog.cellsOf 3 = 1 := by kernel_rfl
theorem cellsU : Try.prog.cellsOf 22 = 1 := by kernel_rfl
theorem cellsS : Try.prog.cellsOf 9 = 1 := by kernel_rfl

section
variable {H : Type} {enc : TypeId × Value → H} {w : World} {base : Nat} {spare : Nat → Bool} {held : Bool}
theorem list5 {α : Type} {cs : List α} (h : cs.length = 5) : ∃ c0 c1 c2 c3 c4, cs = [c0, c1, c2, c3, c4] := by
  match cs, h with
  | [c0, c1, c2, c3, c4], _ => exact ⟨c0, c1, c2, c3, c4, rfl⟩
end

section
variable {H : Type} {enc : TypeId × Value → H}
theorem addr_add (a : Addr) (i j : Nat) (h : a.spot = none) : (a.add i).add j = ⟨a.block, a.off + i + j, none⟩ := by
  obtain ⟨b, o, s⟩ := a
  simp only at h
  subst h
  unfold Addr.add
  by_cases hi : i = 0 <;> by_cases hj : j = 0 <;> simp [hi, hj]
theorem mapM_eq {α β : Type} {f g : α → Option β} : ∀ l : List α, (∀ i ∈ l, f i = g i) → l.mapM f = l.mapM g
  | [], _ => rfl
  | x :: r, h => by
    rw [List.mapM_cons, List.mapM_cons, h x List.mem_cons_self, mapM_eq r fun i hi => h i (List.mem_cons_of_mem _ hi)]
theorem cells_below {w w' : World} (h : Below w.heap.size w w') {base n : Nat} {a : Addr} {cs : List Value} (hc : w.cells? base a n = some cs) : w'.cells? base a n = some cs := by
  obtain ⟨hb, hl, hx⟩ := World.cells?_some hc
  rw [← hc]
  unfold World.cells?
  rw [if_pos hb, if_pos hb]
  refine mapM_eq _ fun i hi => ?_
  have hi' := List.mem_range.1 hi
  have hv := hx i hi'
  rw [List.getElem?_eq_getElem (by omega)] at hv
  rw [hv]; exact cell_below h hv
end
end Go.Proofs.Ytkfomhllaogplaa
