/-
  The walk of MemZero: it answers true of any address and any text.
-/
import Derived.Test.YtkjgkehcfnkcgaaMI
import Derived.Laws.IdiomStrings
import Derived.OwnWalk
import Derived.Laws.Strings3
import Derived.WalkSpells
namespace Go.Proofs.Ytkjgkehcfnkcgaa
open Go.RowKit Go.Maps Mm

theorem infoB : (Try.prog.info? 5).map (fun i => (i.zero, i.size, i.bytes)) = some (some (.int .u8 0), 1, 1) := by kernel_rfl

def zs (n : Nat) : ByteArray := ⟨(List.replicate n 0).toArray⟩
theorem zs_size (n : Nat) : (zs n).size = n := by
  show (List.replicate n (0 : UInt8)).toArray.size = n
  rw [List.size_toArray, List.length_replicate]
theorem zs_list (n : Nat) : (zs n).data.toList = List.replicate n 0 := rfl
theorem zero_string {w : World} {base g n : Nat} (h : w.ownsRow base 5 1 (.slice (some ⟨g, 0, none⟩) n n) n (madeCells (Value.int .u8 0).cells (n * 1)).toList) :
    (convert 47 9 (.slice (some ⟨g, 0, none⟩) n n)).run Try.prog w = .ok (.string (zs n)) w := by
  have e : (madeCells (Value.int .u8 0).cells (n * 1)).toList = List.replicate n (.int .u8 0) := by
    rw [Nat.mul_one]; exact toList_madeCells_one _ _
  have := run_convert_bytes_back (P := Try.prog) w 47 9 5 ⟨g, 0, none⟩ n (List.replicate n 0) Try.underlying47 Try.underlying5 Try.underlying9 (fun j hj => by
    rw [List.length_replicate] at hj
    refine h.cells (g := g) rfl j _ ?_
    rw [e, List.getElem?_replicate, if_pos hj]; simp)
  rwa [List.length_replicate] at this
theorem zeros_getD (n i : Nat) : (List.replicate n (0 : UInt8)).getD i 0 = 0 := by
  rw [List.getD_eq_getElem?_getD, List.getElem?_replicate]; split <;> rfl

set_option maxHeartbeats 4000000 in
set_option maxRecDepth 100000 in
theorem memZero_walk (a : Int) (s : ByteArray) (ha : 0 ≤ a ∧ a < 4294967296) (hs : s.size ≤ maxLen) (w : World) :
    Calls Try.prog 5 #[.int .u32 a, .string s] w fun e w' => e = .returned (.bool true) ∧ Below w.heap.size w w' := by
  obtain ⟨ha0, ha1⟩ := ha
  unfold maxLen at hs
  go_enter Try.func5, Try.ntmps5
  go_wp2_with fail
  refine (new_op w).mono ?_
  rintro e w1 ⟨p, m, rfl, hm, hp1, hm1, hb1⟩
  go_wp2_with fail
  generalize hx : s.extract 0 (min (s.size : Int) 30).toNat = t
  have ht : t.size ≤ 30 := by rw [← hx, ByteArray.size_extract]; omega
  clear hx
  refine (put_any w1 hm (by omega) (by omega)).mono ?_
  rintro e w2 ⟨rfl, hm2, hg2⟩
  have hb2 : Below w.heap.size w w2 := hb1.trans (grown_below hg2 hm1 hb1.size)
  clear hm hg2
  go_wp2_with fail
  refine (copy_op w2 hm2).mono ?_
  rintro e w3 ⟨q, n, rfl, hc3, hq3, hn3, hb3⟩
  have hm3 := hm2.below hb3
  have l1 := hm2.lt
  have l2 := hm2.lt'
  have hb3' : Below w.heap.size w w3 := hb2.trans (hb3.mono hb2.size)
  clear hm2
  obtain ⟨i0, hi, hz0, hz1, hz2⟩ := info_parts infoB
  go_wp2_with (first
    | (at_make; refine wpList_make_full _ rfl _ _ 47 rfl w.heap.size 5 i0 (.int .u8 0) 1 Try.underlying47 hi hz0 hz1 .i64 .i64 _ _ t.size rfl rfl rfl rfl (by rw [hz2]; omega) (by unfold maxLen; omega) hb3'.size ?_; intro w4 hown4 hg4; have hcv := zero_string hown4)
    | fail)
  have hb4 : Below w.heap.size w w4 := hb3'.grown hg4 hb3'.size (fun k e => by cases e)
  have hm4 := hm3.kept hg4 (by simp) (by simp)
  have hc4 := hc3.kept hg4 (by simp) (by simp)
  clear hcv hown4 hg4 hm3 hc3 hb3' hb3 hb2
  refine (put_any w4 hm4 (by omega) (by rw [zs_size]; omega)).mono ?_
  rintro e w5 ⟨rfl, hm5, hg5⟩
  have hc5 := hc4.apart hg5 (by omega) (by omega)
  have hb5 : Below w.heap.size w w5 := hb4.trans (grown_below hg5 hm1 hb4.size)
  have hz : puts (puts [] a t.data.toList t.size) a (zs t.size).data.toList (zs t.size).size = [] := by
    rw [zs_size, zs_list]; exact puts_zero a _ _ _ (by omega) (fun i => zeros_getD _ i)
  rw [hz] at hm5
  clear hz hm4 hc4 hg5 hb4
  go_wp2_with fail
  refine (cells_any w5 hm5).mono ?_
  rintro e w6 ⟨x, rfl, hx6, hb6⟩
  have hm6 := hm5.below hb6
  have hc6 := hc5.below hb6
  have hb6' : Below w.heap.size w w6 := hb5.trans (hb6.mono hb5.size)
  obtain ⟨ad, cp, rfl⟩ : ∃ ad cp, x = .slice ad 0 cp := by
    rcases hx6.2 with ⟨rfl, _⟩ | ⟨g, cap, cur, rfl, _⟩
    · exact ⟨_, _, rfl⟩
    · exact ⟨_, _, rfl⟩
  have BA := hide (bytes_all a t (by omega))
  clear hx6 hm5 hc5 hb5 hb6
  go_wp2_with fail
  refine (bytes_any (t.size : Int) w6 hc6 (by omega) (by omega)).mono ?_
  rintro e w7 ⟨rfl, hb7⟩
  rw [Int.toNat_natCast, BA.out]
  have hm7 := hm6.below hb7
  have hb7' : Below w.heap.size w w7 := hb6'.trans (hb7.mono hb6'.size)
  clear hm6 hc6 hb7 hb6'
  go_wp2_with fail
  refine (bytes_any (-1) w7 hm7 (by omega) (by omega)).mono ?_
  rintro e w8 ⟨rfl, hb8⟩
  have hb8' : Below w.heap.size w w8 := hb7'.trans (hb8.mono hb7'.size)
  rw [show (bytesOf [] a (-1 : Int).toNat) = [] from rfl]
  clear hb8
  go_wp2_with fail
  refine (fixed_any w8).mono ?_
  rintro e w9 ⟨rfl, hb9⟩
  go_wp2_with fail
  go_ret
  exact ⟨rfl, hb8'.trans (hb9.mono hb8'.size)⟩
end Go.Proofs.Ytkjgkehcfnkcgaa
