/-
  The walk of MemSplit: it answers true of any address, any text and any place.
-/
import Derived.Test.YtkjgkehcfnkcgaaMI
import Derived.Laws.Strings3
import Derived.WalkSpells
import Derived.Deep.RegionHeld3
namespace Go.Proofs.Ytkjgkehcfnkcgaa
open Go.RowKit Go.Maps Mm

/-- v is the number at a, n bytes wide: behind a name, that the walk does not rewrite by it. -/
def NumIs (v : Int) (l : Cs) (a : Int) (n : Nat) : Prop := v = num l a n
def TextIs (t : ByteArray) (l : Cs) (a : Int) (n : Nat) : Prop := t = ⟨(bytesOf l a n).toArray⟩
theorem load_op {pb bm : Nat} {l : Cs} {a n : Int} (w : World) (h : MemAt w pb bm l) (ha : 0 ≤ a ∧ a < 4294967296) (hn : n = 1 ∨ n = 2 ∨ n = 4) :
    Calls Try.prog 11 #[.pointer (some ⟨pb, 0, none⟩), .int .u32 a, .int .i64 n] w fun e w' => ∃ v, e = .returned (.tuple #[.int .u32 v, .int .i64 0]) ∧ NumIs v l a n.toNat ∧ w' = w :=
  (load_any w h ha hn).mono fun _ _ h => ⟨_, h.1, rfl, h.2⟩
theorem bytes_op {pb bm : Nat} {l : Cs} {a : Int} (n : Int) (w : World) (h : MemAt w pb bm l) (ha : 0 ≤ a ∧ a < 4294967296) (hn : n ≤ 65536) :
    Calls Try.prog 17 #[.pointer (some ⟨pb, 0, none⟩), .int .u32 a, .int .i64 n] w fun e w' => ∃ t, e = .returned (.string t) ∧ TextIs t l a n.toNat ∧ Below w.heap.size w w' :=
  (bytes_any n w h ha hn).mono fun _ _ h => ⟨_, h.1, rfl, h.2⟩

theorem wrap32 {x : Int} (h : 0 ≤ x ∧ x < 4294967296) : IntKind.u32.wrap x = x := by
  have : IntKind.u32.wrap x = x % 4294967296 := rfl
  omega
theorem num_two (l : Cs) (a : Int) (h : 0 ≤ a ∧ a < 4294967296) : num l a 2 = Mm.look l a + Mm.look l ((a + 1) % 4294967296) * 256 := by
  have e : (a + ((0 : Nat) : Int)) % 4294967296 = a := by omega
  show (0 + Mm.look l ((a + ((0 : Nat) : Int)) % 4294967296) * 256 ^ 0) + Mm.look l ((a + 1) % 4294967296) * 256 ^ 1 = _
  rw [e]; omega
theorem num_four (l : Cs) (a : Int) (h : 0 ≤ a ∧ a < 4294967296) : num l a 4 = Mm.look l a + Mm.look l ((a + 1) % 4294967296) * 256 + Mm.look l ((a + 2) % 4294967296) * 65536 + Mm.look l ((a + 3) % 4294967296) * 16777216 := by
  have e := num_two l a h
  show num l a 2 + Mm.look l ((a + 2) % 4294967296) * 256 ^ 2 + Mm.look l ((a + 3) % 4294967296) * 256 ^ 3 = _
  rw [e]; omega
theorem split_num {L : Cs} (hr : Rise L) {c V X Y : Int} (hc : 0 ≤ c ∧ c < 4294967296) (hV : NumIs V L c (4 : Int).toNat) (hX : NumIs X L c (2 : Int).toNat) (hY : NumIs Y L ((c + 2) % 4294967296) (2 : Int).toNat) :
    bits .or .u32 X (IntKind.u32.wrap (Y * 65536)) = V := by
  have hV : V = num L c 4 := hV
  have hX : X = num L c 2 := hX
  have hY : Y = num L ((c + 2) % 4294967296) 2 := hY
  rw [num_four L c hc] at hV
  rw [num_two L c hc] at hX
  rw [num_two L _ (by omega), show ((c + 2) % 4294967296 + 1) % 4294967296 = (c + 3) % 4294967296 by omega] at hY
  have r0 := look_range hr c
  have r1 := look_range hr ((c + 1) % 4294967296)
  have r2 := look_range hr ((c + 2) % 4294967296)
  have r3 := look_range hr ((c + 3) % 4294967296)
  rw [wrap32 (by omega)]
  obtain ⟨x, ex⟩ := Int.eq_ofNat_of_zero_le (a := X) (by omega)
  obtain ⟨y, ey⟩ := Int.eq_ofNat_of_zero_le (a := Y) (by omega)
  have := or_nat x y 16 (by omega) (by omega) (by omega)
  rw [ex, ey, show (y : Int) * 65536 = ((y * 2 ^ 16 : Nat) : Int) by omega, this]; omega
theorem text_at {u : ByteArray} {L : Cs} {c : Int} {n : Nat} (hr : Rise L) (hu : TextIs u L c n) (i : Nat) (hi : i < u.size) : ((u[i]'hi).toNat : Int) = Mm.look L ((c + i) % 4294967296) := by
  unfold TextIs at hu
  subst hu
  have e : (⟨(bytesOf L c n).toArray⟩ : ByteArray)[i] = byteAt L c i := by
    show (bytesOf L c n).toArray[i] = _
    rw [List.getElem_toArray]; simp [bytesOf]
  rw [e, byteAt_val hr]
theorem split_text {L : Cs} (hr : Rise L) {c V : Int} {u : ByteArray} (hc : 0 ≤ c ∧ c < 4294967296) (hV : NumIs V L c (4 : Int).toNat) (hu : TextIs u L c (4 : Int).toNat) (h : u.size = 4) :
    bits .or .u32 (bits .or .u32 (bits .or .u32 (IntKind.u32.wrap ((u[0]'(by omega)).toNat : Int)) (IntKind.u32.wrap (IntKind.u32.wrap ((u[1]'(by omega)).toNat : Int) * 256)))
      (IntKind.u32.wrap (IntKind.u32.wrap ((u[2]'(by omega)).toNat : Int) * 65536))) (IntKind.u32.wrap (IntKind.u32.wrap ((u[3]'(by omega)).toNat : Int) * 16777216)) = V := by
  have hV : V = num L c 4 := hV
  rw [num_four L c hc] at hV
  have r0 := look_range hr c
  have r1 := look_range hr ((c + 1) % 4294967296)
  have r2 := look_range hr ((c + 2) % 4294967296)
  have r3 := look_range hr ((c + 3) % 4294967296)
  have e0 := text_at hr hu 0 (by omega)
  have e1 := text_at hr hu 1 (by omega)
  have e2 := text_at hr hu 2 (by omega)
  have e3 := text_at hr hu 3 (by omega)
  rw [show (c + ((0 : Nat) : Int)) % 4294967296 = c by omega] at e0
  rw [show (c + ((1 : Nat) : Int)) % 4294967296 = (c + 1) % 4294967296 from rfl] at e1
  rw [show (c + ((2 : Nat) : Int)) % 4294967296 = (c + 2) % 4294967296 from rfl] at e2
  rw [show (c + ((3 : Nat) : Int)) % 4294967296 = (c + 3) % 4294967296 from rfl] at e3
  rw [e0, e1, e2, e3, hV]
  generalize Mm.look L c = x0 at *
  generalize Mm.look L ((c + 1) % 4294967296) = x1 at *
  generalize Mm.look L ((c + 2) % 4294967296) = x2 at *
  generalize Mm.look L ((c + 3) % 4294967296) = x3 at *
  rw [wrap32 (x := x0) (by omega), wrap32 (x := x1) (by omega), wrap32 (x := x2) (by omega), wrap32 (x := x3) (by omega), wrap32 (x := x1 * 256) (by omega), wrap32 (x := x2 * 65536) (by omega), wrap32 (x := x3 * 16777216) (by omega)]
  rw [or_1 x0 x1 (by omega) (by omega), or_2 (x0 + x1 * 256) x2 (by omega) (by omega), or_3 _ x3 (by omega) (by omega)]

set_option maxHeartbeats 16000000 in
set_option maxRecDepth 100000 in
theorem memSplit_walk (a : Int) (s : ByteArray) (k : Int) (ha : 0 ≤ a ∧ a < 4294967296) (hs : s.size ≤ maxLen) (w : World) :
    Calls Try.prog 8 #[.int .u32 a, .string s, .int .i64 k] w fun e w' => e = .returned (.bool true) ∧ Below w.heap.size w w' := by
  obtain ⟨ha0, ha1⟩ := ha
  unfold maxLen at hs
  go_enter Try.func8, Try.ntmps8
  go_wp2_with fail
  refine (new_op w).mono ?_
  rintro e w1 ⟨p, m, rfl, hm, hp1, hm1, hb1⟩
  go_wp2_with fail
  generalize hx : s.extract 0 (min (s.size : Int) 40).toNat = t
  have ht : t.size ≤ 40 := by rw [← hx, ByteArray.size_extract]; omega
  clear hx
  refine (put_any w1 hm (by omega) (by omega)).mono ?_
  rintro e w2 ⟨rfl, hm2, hg2⟩
  have hb2 : Below w.heap.size w w2 := hb1.trans (grown_below hg2 hm1 hb1.size)
  clear hm hg2
  obtain ⟨L, hL⟩ : ∃ L, puts [] a t.data.toList t.size = L := ⟨_, rfl⟩
  rw [hL] at hm2
  clear hL
  go_wp2_with fail
  generalize bits BinOp.and IntKind.i64 k 63 = z
  generalize hx : (a + z % 4294967296) % 4294967296 = c
  have hc0 : 0 ≤ c := by omega
  have hc1 : c < 4294967296 := by omega
  have hy : (a + z) % 4294967296 = c := by omega
  rw [hy]
  clear hx hy
  refine (load_op w2 hm2 ⟨hc0, hc1⟩ (Or.inr (Or.inr rfl))).mono ?_
  rintro e w3 ⟨V, rfl, hV, rfl⟩
  go_wp2_with fail
  refine (load_op w3 hm2 ⟨hc0, hc1⟩ (Or.inr (Or.inl rfl))).mono ?_
  rintro e w4 ⟨X, rfl, hX, rfl⟩
  go_wp2_with fail
  refine (load_op w4 hm2 (by omega) (Or.inr (Or.inl rfl))).mono ?_
  rintro e w5 ⟨Y, rfl, hY, rfl⟩
  go_wp2_with fail
  refine (bytes_op 4 w5 hm2 ⟨hc0, hc1⟩ (by omega)).mono ?_
  rintro e w6 ⟨u, rfl, hu, hb6⟩
  have hb6' : Below w.heap.size w w6 := hb2.trans (hb6.mono hb2.size)
  have hu4 : u.size = 4 := by unfold TextIs at hu; rw [hu]; show (bytesOf L c 4).toArray.size = 4; rw [List.size_toArray, bytesOf_len]
  have E1 := split_num hm2.rise ⟨hc0, hc1⟩ hV hX hY
  have E2 := split_text hm2.rise ⟨hc0, hc1⟩ hV hu hu4
  clear hV hX hY hu hb6
  go_wp2_with fail
  have hd6 : Below w.heap.size w w6.drew := hb6'.trans (drewN_below w6 1 _)
  go_region_held3 (fun w' => Below w.heap.size w w') (first | assumption)
    (first
      | (go_at_call 22; refine (fixed_any _).mono ?_; rintro e w9 ⟨rfl, hk⟩; have hS : Below w.heap.size w w9 := (by assumption : Below w.heap.size w _).trans (hk.mono (by assumption : Below w.heap.size w _).size)))
  all_goals
    go_wp2_with fail
    go_ret
    exact ⟨rfl, by assumption⟩
end Go.Proofs.Ytkjgkehcfnkcgaa
