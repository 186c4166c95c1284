/-
  Plain facts of numbers and bytes in a memory, and the contracts of Load and Bytes that hide what they answer behind a name.
-/
import Derived.Test.YtmhgighiekncfaaMI
namespace Go.Proofs.Ytmhgighiekncfaa
open Go.RowKit Go.Maps Mm

/-- v is the number at a, n bytes wide: behind a name, that the walk does not rewrite by it. -/
def NumIs (v : Int) (l : Cs) (a : Int) (n : Nat) : Prop := v = num l a n
def TextIs (t : ByteArray) (l : Cs) (a : Int) (n : Nat) : Prop := t = ⟨(bytesOf l a n).toArray⟩
theorem load_op {pb bm : Nat} {l : Cs} {a n : Int} (w : World) (h : MemAt w pb bm l) (ha : 0 ≤ a ∧ a < 4294967296) (hn : n = 1 ∨ n = 2 ∨ n = 4) :
    Calls Try.prog 11 #[.pointer (some ⟨pb, 0, none⟩), .int .u32 a, .int .i64 n] w fun e w' => ∃ v, e = .returned (.tuple #[.int .u32 v, .int .i64 0]) ∧ NumIs v l a n.toNat ∧ w' = w :=
  (load_any w h ha hn).mono fun _ _ h => ⟨_, h.1, rfl, h.2⟩
theorem bytes_op {pb bm : Nat} {l : Cs} {a : Int} (n : Int) (w : World) (h : MemAt w pb bm l) (ha : 0 ≤ a ∧ a < 4294967296) (hn : n ≤ 65536) :
    Calls Try.prog 17 #[.pointer (some ⟨pb, 0, none⟩), .int .u32 a, .int .i64 n] w fun e w' => ∃ t, e = .returned (.string t) ∧ TextIs t l a n.toNat ∧ Below w.heap.size w w' :=
  (bytes_any n w h ha hn).mono fun _ _ h => ⟨_, h.1, rfl, h.2⟩

theorem wrap32 {x : Int} (h : 0 ≤ x ∧ x < 4294967296) : IntKind.u32.wrap x = x := by
  have : IntKind.u32.wrap x = x % 4294967296 := rfl
  omega
theorem num_two (l : Cs) (a : Int) (h : 0 ≤ a ∧ a < 4294967296) : num l a 2 = Mm.look l a + Mm.look l ((a + 1) % 4294967296) * 256 := by
  have e : (a + ((0 : Nat) : Int)) % 4294967296 = a := by omega
  show (0 + Mm.look l ((a + ((0 : Nat) : Int)) % 4294967296) * 256 ^ 0) + Mm.look l ((a + 1) % 4294967296) * 256 ^ 1 = _
  rw [e]; omega
theorem num_four (l : Cs) (a : Int) (h : 0 ≤ a ∧ a < 4294967296) : num l a 4 = Mm.look l a + Mm.look l ((a + 1) % 4294967296) * 256 + Mm.look l ((a + 2) % 4294967296) * 65536 + Mm.look l ((a + 3) % 4294967296) * 16777216 := by
  have e := num_two l a h
  show num l a 2 + Mm.look l ((a + 2) % 4294967296) * 256 ^ 2 + Mm.look l ((a + 3) % 4294967296) * 256 ^ 3 = _
  rw [e]; omega
theorem split_num {L : Cs} (hr : Rise L) {c V X Y : Int} (hc : 0 ≤ c ∧ c < 4294967296) (hV : NumIs V L c (4 : Int).toNat) (hX : NumIs X L c (2 : Int).toNat) (hY : NumIs Y L ((c + 2) % 4294967296) (2 : Int).toNat) :
    bits .or .u32 X (IntKind.u32.wrap (Y * 65536)) = V := by
  have hV : V = num L c 4 := hV
  have hX : X = num L c 2 := hX
  have hY : Y = num L ((c + 2) % 4294967296) 2 := hY
  rw [num_four L c hc] at hV
  rw [num_two L c hc] at hX
  rw [num_two L _ (by omega), show ((c + 2) % 4294967296 + 1) % 4294967296 = (c + 3) % 4294967296 by omega] at hY
  have r0 := look_range hr c
  have r1 := look_range hr ((c + 1) % 4294967296)
  have r2 := look_range hr ((c + 2) % 4294967296)
  have r3 := look_range hr ((c + 3) % 4294967296)
  rw [wrap32 (by omega)]
  obtain ⟨x, ex⟩ := Int.eq_ofNat_of_zero_le (a := X) (by omega)
  obtain ⟨y, ey⟩ := Int.eq_ofNat_of_zero_le (a := Y) (by omega)
  have := or_nat x y 16 (by omega) (by omega) (by omega)
  rw [ex, ey, show (y : Int) * 65536 = ((y * 2 ^ 16 : Nat) : Int) by omega, this]; omega
theorem text_at {u : ByteArray} {L : Cs} {c : Int} {n : Nat} (hr : Rise L) (hu : TextIs u L c n) (i : Nat) (hi : i < u.size) : ((u[i]'hi).toNat : Int) = Mm.look L ((c + i) % 4294967296) := by
  unfold TextIs at hu
  subst hu
  have e : (⟨(bytesOf L c n).toArray⟩ : ByteArray)[i] = byteAt L c i := by
    show (bytesOf L c n).toArray[i] = _
    rw [List.getElem_toArray]; simp [bytesOf]
  rw [e, byteAt_val hr]
theorem split_text {L : Cs} (hr : Rise L) {c V : Int} {u : ByteArray} (hc : 0 ≤ c ∧ c < 4294967296) (hV : NumIs V L c (4 : Int).toNat) (hu : TextIs u L c (4 : Int).toNat) (h : u.size = 4) :
    bits .or .u32 (bits .or .u32 (bits .or .u32 (IntKind.u32.wrap ((u[0]'(by omega)).toNat : Int)) (IntKind.u32.wrap (IntKind.u32.wrap ((u[1]'(by omega)).toNat : Int) * 256)))
      (IntKind.u32.wrap (IntKind.u32.wrap ((u[2]'(by omega)).toNat : Int) * 65536))) (IntKind.u32.wrap (IntKind.u32.wrap ((u[3]'(by omega)).toNat : Int) * 16777216)) = V := by
  have hV : V = num L c 4 := hV
  rw [num_four L c hc] at hV
  have r0 := look_range hr c
  have r1 := look_range hr ((c + 1) % 4294967296)
  have r2 := look_range hr ((c + 2) % 4294967296)
  have r3 := look_range hr ((c + 3) % 4294967296)
  have e0 := text_at hr hu 0 (by omega)
  have e1 := text_at hr hu 1 (by omega)
  have e2 := text_at hr hu 2 (by omega)
  have e3 := text_at hr hu 3 (by omega)
  rw [show (c + ((0 : Nat) : Int)) % 4294967296 = c by omega] at e0
  rw [show (c + ((1 : Nat) : Int)) % 4294967296 = (c + 1) % 4294967296 from rfl] at e1
  rw [show (c + ((2 : Nat) : Int)) % 4294967296 = (c + 2) % 4294967296 from rfl] at e2
  rw [show (c + ((3 : Nat) : Int)) % 4294967296 = (c + 3) % 4294967296 from rfl] at e3
  rw [e0, e1, e2, e3, hV]
  generalize Mm.look L c = x0 at *
  generalize Mm.look L ((c + 1) % 4294967296) = x1 at *
  generalize Mm.look L ((c + 2) % 4294967296) = x2 at *
  generalize Mm.look L ((c + 3) % 4294967296) = x3 at *
  rw [wrap32 (x := x0) (by omega), wrap32 (x := x1) (by omega), wrap32 (x := x2) (by omega), wrap32 (x := x3) (by omega), wrap32 (x := x1 * 256) (by omega), wrap32 (x := x2 * 65536) (by omega), wrap32 (x := x3 * 16777216) (by omega)]
  rw [or_1 x0 x1 (by omega) (by omega), or_2 (x0 + x1 * 256) x2 (by omega) (by omega), or_3 _ x3 (by omega) (by omega)]

theorem ins_len (a c : Int) : ∀ l : Cs, (ins a c l).length ≤ l.length + 1
  | [] => by simp [ins]
  | p :: r => by
    have := ins_len a c r
    unfold ins; split
    · simp
    · split
      · simp
      · simp; omega
theorem set_len (l : Cs) (a c : Int) : (Mm.set l a c).length ≤ l.length + 1 := by
  unfold Mm.set; split
  · unfold del; have := List.length_filter_le (fun p : Int × Int => !(p.1 == a)) l; omega
  · exact ins_len a c l
theorem puts_len (a : Int) (s : List UInt8) : ∀ n : Nat, (puts [] a s n).length ≤ n
  | 0 => by simp [puts]
  | n + 1 => by
    have := puts_len a s n
    unfold puts
    have := set_len (puts [] a s n) ((a + n) % 4294967296) ((s.getD n 0).toNat : Int)
    omega
theorem and_mask (v : Int) (k : Nat) (hk : k ≤ 31) (h : 0 ≤ v ∧ v < 4294967296) : bits .and .u32 v ((2 ^ k - 1 : Nat) : Int) = v % ((2 ^ k : Nat) : Int) := by
  obtain ⟨x, rfl⟩ := Int.eq_ofNat_of_zero_le h.1
  have hp : 2 ^ k ≤ 2 ^ 31 := Nat.pow_le_pow_right (by omega) hk
  rw [u32_and_nat x (2 ^ k - 1) (by omega) (by omega), Nat.and_two_pow_sub_one_eq_mod]
  exact Int.natCast_emod x (2 ^ k)
theorem and_255 (v : Int) (h : 0 ≤ v ∧ v < 4294967296) : bits .and .u32 v 255 = v % 256 := and_mask v 8 (by omega) h
theorem and_65535 (v : Int) (h : 0 ≤ v ∧ v < 4294967296) : bits .and .u32 v 65535 = v % 65536 := and_mask v 16 (by omega) h
theorem look_sto_at {l : Cs} {x v : Int} (i : Nat) (hi : i < 4) : Mm.look (sto l x v 4) ((x + i) % 4294967296) = v / 256 ^ i % 256 := by
  rw [look_sto (by omega) 4 (by omega), far_add (by omega), if_pos hi]
theorem num_sto {l : Cs} {x v : Int} (hx : 0 ≤ x ∧ x < 4294967296) (hv : 0 ≤ v ∧ v < 4294967296) : num (sto l x v 4) x 4 = v := by
  have e0 := look_sto_at (l := l) (x := x) (v := v) 0 (by omega)
  have e1 := look_sto_at (l := l) (x := x) (v := v) 1 (by omega)
  have e2 := look_sto_at (l := l) (x := x) (v := v) 2 (by omega)
  have e3 := look_sto_at (l := l) (x := x) (v := v) 3 (by omega)
  rw [show (x + ((0 : Nat) : Int)) % 4294967296 = x by omega] at e0
  rw [show (x + ((1 : Nat) : Int)) % 4294967296 = (x + 1) % 4294967296 from rfl] at e1
  rw [show (x + ((2 : Nat) : Int)) % 4294967296 = (x + 2) % 4294967296 from rfl] at e2
  rw [show (x + ((3 : Nat) : Int)) % 4294967296 = (x + 3) % 4294967296 from rfl] at e3
  rw [num_four _ x hx, e0, e1, e2, e3]; omega
theorem num_sto_1 {l : Cs} {x v : Int} : num (sto l x v 4) x 1 = v % 256 := by
  have e0 := look_sto_at (l := l) (x := x) (v := v) 0 (by omega)
  show 0 + Mm.look (sto l x v 4) ((x + ((0 : Nat) : Int)) % 4294967296) * 256 ^ 0 = _
  rw [e0]; omega
theorem num_sto_2 {l : Cs} {x v : Int} : num (sto l x v 4) ((x + 1) % 4294967296) 2 = v / 256 % 65536 := by
  have e1 := look_sto_at (l := l) (x := x) (v := v) 1 (by omega)
  have e2 := look_sto_at (l := l) (x := x) (v := v) 2 (by omega)
  rw [show (x + ((1 : Nat) : Int)) % 4294967296 = (x + 1) % 4294967296 from rfl] at e1
  rw [show (x + ((2 : Nat) : Int)) % 4294967296 = (x + 2) % 4294967296 from rfl] at e2
  rw [num_two _ _ (by omega), show ((x + 1) % 4294967296 + 1) % 4294967296 = (x + 2) % 4294967296 by omega, e1, e2]; omega
/-- The bytes beside what was stored are those that were put. -/
theorem bytes_beside (a v : Int) (s : List UInt8) (o n : Nat) (hs : s.length ≤ 30) (hn : o + n ≤ s.length) (h : o + n ≤ 7 ∨ 11 ≤ o) :
    bytesOf (sto (puts [] a s s.length) ((a + 7) % 4294967296) v 4) ((a + o) % 4294967296) n = (s.drop o).take n := by
  apply List.ext_getElem
  · rw [bytesOf_len, List.length_take, List.length_drop]; omega
  · intro i h1 h2
    rw [bytesOf_len] at h1
    have e : (bytesOf (sto (puts [] a s s.length) ((a + 7) % 4294967296) v 4) ((a + o) % 4294967296) n)[i]'(by rw [bytesOf_len]; exact h1) = byteAt (sto (puts [] a s s.length) ((a + 7) % 4294967296) v 4) ((a + o) % 4294967296) i := by simp [bytesOf]
    rw [e, List.getElem_take, List.getElem_drop]
    unfold byteAt
    rw [show ((a + (o : Int)) % 4294967296 + (i : Int)) % 4294967296 = (a + ((o + i : Nat) : Int)) % 4294967296 by omega]
    rw [look_sto (by omega) 4 (by omega), if_neg (by unfold far; omega), look_puts (by omega) _ (by omega), far_add (by omega), if_pos (by omega)]
    rw [List.getD_eq_getElem?_getD, List.getElem?_eq_getElem (by omega)]
    exact byte_ofNat _
end Go.Proofs.Ytmhgighiekncfaa
