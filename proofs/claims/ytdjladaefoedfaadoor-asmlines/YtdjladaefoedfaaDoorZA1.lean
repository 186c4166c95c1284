/-
  What the document says of instructions' texts, as plain functions on lists of bytes: names, numbers, texts, and what is read of them. No program in sight.
  Instructions' texts as plain lists of bytes, what is read of a text, and that what is printed is read as it was. No program in sight.
  The document's own way to read an instruction's text comes to the same; lines of texts, and what is read of them. No program in sight.
-/
import Derived.Lib.AtoiAllCases
import Derived.Lib.ItoaNum
import Derived.Lib.IndexAny
import Derived.Lib.IndexMore
import Derived.Lib.Join
import Derived.Test.YtdjladaefoedfaaDoorZb
namespace Go.Proofs.YtdjladaefoedfaaDoor
open Go.RowKit
namespace As
open Ip

def nms : List (List UInt8) := [[108, 117, 105], [97, 117, 105, 112, 99], [106, 97, 108], [106, 97, 108, 114], [98, 101, 113], [98, 110, 101], [98, 108, 116], [98, 103, 101], [98, 108, 116, 117], [98, 103, 101, 117], [108, 98], [108, 104], [108, 119], [108, 98, 117], [108, 104, 117], [115, 98], [115, 104], [115, 119], [97, 100, 100, 105], [115, 108, 116, 105], [115, 108, 116, 105, 117], [120, 111, 114, 105], [111, 114, 105], [97, 110, 100, 105], [115, 108, 108, 105], [115, 114, 108, 105], [115, 114, 97, 105], [97, 100, 100], [115, 117, 98], [115, 108, 108], [115, 108, 116], [115, 108, 116, 117], [120, 111, 114], [115, 114, 108], [115, 114, 97], [111, 114], [97, 110, 100], [109, 117, 108], [109, 117, 108, 104], [109, 117, 108, 104, 115, 117], [109, 117, 108, 104, 117], [100, 105, 118], [100, 105, 118, 117], [114, 101, 109], [114, 101, 109, 117], [101, 99, 97, 108, 108], [101, 98, 114, 101, 97, 107]]
def nm (k : Nat) : List UInt8 := nms.getD k []
def name (op : Int) : List UInt8 := if 0 ≤ op then nm op.toNat else []
/-- The place of a name from a place on. -/
def byF (l : List UInt8) : List (List UInt8) → Int → Int
  | [], _ => -1
  | a :: r, k => if a = l then k else byF l r (k + 1)
def byV (l : List UInt8) : Int := byF l nms 0

theorem byV_nm (k : Nat) (h : k < 47) : byV (nm k) = k := by
  revert k
  refine cases47 ?_ ?_ ?_ ?_ ?_ ?_ ?_ ?_ ?_ ?_ ?_ ?_ ?_ ?_ ?_ ?_ ?_ ?_ ?_ ?_ ?_ ?_ ?_ ?_ ?_ ?_ ?_ ?_ ?_ ?_ ?_ ?_ ?_ ?_ ?_ ?_ ?_ ?_ ?_ ?_ ?_ ?_ ?_ ?_ ?_ ?_ ?_
  all_goals decide +kernel
theorem byF_at (l : List UInt8) : ∀ (r : List (List UInt8)) (k : Int), 0 ≤ k → 0 ≤ byF l r k → k ≤ byF l r k ∧ byF l r k < k + r.length ∧ r.getD (byF l r k - k).toNat [] = l
  | [], k, hk, h => by simp [byF] at h
  | a :: r, k, hk, h => by
    by_cases ha : a = l
    · have e : byF l (a :: r) k = k := by simp [byF, ha]
      rw [e]; refine ⟨by omega, by simp; omega, ?_⟩
      rw [show (k - k).toNat = 0 by omega]; simpa using ha
    · have e : byF l (a :: r) k = byF l r (k + 1) := by simp [byF, ha]
      rw [e] at h ⊢
      obtain ⟨h1, h2, h3⟩ := byF_at l r (k + 1) (by omega) h
      refine ⟨by omega, by simp; omega, ?_⟩
      rw [show (byF l r (k + 1) - k).toNat = (byF l r (k + 1) - (k + 1)).toNat + 1 by omega]; simpa using h3
theorem byF_ge (l : List UInt8) : ∀ (r : List (List UInt8)) (k : Int), 0 ≤ k → -1 ≤ byF l r k
  | [], k, hk => by simp [byF]
  | a :: r, k, hk => by
    unfold byF; split
    · omega
    · exact byF_ge l r (k + 1) (by omega)
theorem byV_ge (l : List UInt8) : -1 ≤ byV l := byF_ge l nms 0 (by omega)
theorem byV_at (l : List UInt8) (h : 0 ≤ byV l) : byV l < 47 ∧ nm (byV l).toNat = l := by
  obtain ⟨h1, h2, h3⟩ := byF_at l nms 0 (by omega) h
  refine ⟨by have : nms.length = 47 := by decide +kernel
             rw [this] at h2; unfold byV; omega, ?_⟩
  unfold nm byV; simpa using h3
theorem nm_small (k : Nat) : ∀ b ∈ nm k, 97 ≤ b.toNat ∧ b.toNat ≤ 122 := by
  unfold nm; rw [List.getD_eq_getElem?_getD]
  cases e : nms[k]? with
  | none => intro b hb; simp at hb
  | some y =>
    have hy : y ∈ nms := List.mem_of_getElem? e
    have all : ∀ y ∈ nms, ∀ b ∈ y, 97 ≤ b.toNat ∧ b.toNat ≤ 122 := by decide +kernel
    intro b hb; exact all y hy b (by simpa using hb)
theorem nm_some (k : Nat) (h : k < 47) : nm k ≠ [] := by
  revert k
  refine cases47 ?_ ?_ ?_ ?_ ?_ ?_ ?_ ?_ ?_ ?_ ?_ ?_ ?_ ?_ ?_ ?_ ?_ ?_ ?_ ?_ ?_ ?_ ?_ ?_ ?_ ?_ ?_ ?_ ?_ ?_ ?_ ?_ ?_ ?_ ?_ ?_ ?_ ?_ ?_ ?_ ?_ ?_ ?_ ?_ ?_ ?_ ?_
  all_goals decide +kernel
theorem nm_length (k : Nat) : (nm k).length ≤ 6 := by
  unfold nm; rw [List.getD_eq_getElem?_getD]
  cases e : nms[k]? with
  | none => simp
  | some y =>
    have all : ∀ y ∈ nms, y.length ≤ 6 := by decide +kernel
    simpa using all y (List.mem_of_getElem? e)
theorem nm_big (k : Nat) (h : 47 ≤ k) : nm k = [] := by
  unfold nm; rw [List.getD_eq_getElem?_getD, List.getElem?_eq_none (by have : nms.length = 47 := by decide +kernel
                                                                       omega)]; rfl

/-! ### Numbers -/
def isDig (b : UInt8) : Bool := decide (48 ≤ b.toNat ∧ b.toNat ≤ 57)
def dm : List UInt8 := [45, 48, 49, 50, 51, 52, 53, 54, 55, 56, 57]
theorem dm_eq (b : UInt8) : dm.contains b = (decide (b.toNat = 45) || isDig b) := by
  have all : ∀ n : Fin 256, dm.contains (UInt8.ofNat n.val) = (decide ((UInt8.ofNat n.val).toNat = 45) || isDig (UInt8.ofNat n.val)) := by decide +kernel
  have := all ⟨b.toNat, b.toNat_lt⟩
  simpa using this
theorem digit_of (u : Nat) (h : u < 10) : isDig (UInt8.ofNat (48 + u)) = true ∧ (UInt8.ofNat (48 + u)).toNat = 48 + u := by
  have e : (UInt8.ofNat (48 + u)).toNat = 48 + u := by simp; omega
  refine ⟨?_, e⟩; unfold isDig; rw [e]; simp; omega
theorem dd_small {u : Nat} (h : u < 10) : Lib.decDigits u = [UInt8.ofNat (48 + u)] := by rw [Lib.decDigits, dif_pos h]
theorem dd_big {u : Nat} (h : ¬ u < 10) : Lib.decDigits u = Lib.decDigits (u / 10) ++ [UInt8.ofNat (48 + u % 10)] := by rw [Lib.decDigits, dif_neg h]
theorem dd_all (u : Nat) : ∀ b ∈ Lib.decDigits u, isDig b = true := by
  induction u using Nat.strongRecOn with
  | ind u ih =>
    by_cases h : u < 10
    · rw [dd_small h]; intro b hb; rw [List.mem_singleton] at hb; rw [hb]; exact (digit_of u h).1
    · rw [dd_big h]; intro b hb
      rcases List.mem_append.1 hb with hb | hb
      · exact ih (u / 10) (by omega) b hb
      · rw [List.mem_singleton] at hb; rw [hb]; exact (digit_of _ (Nat.mod_lt _ (by decide))).1
theorem dd_some (u : Nat) : Lib.decDigits u ≠ [] := by
  by_cases h : u < 10
  · rw [dd_small h]; simp
  · rw [dd_big h]; simp
theorem dd_len : ∀ (k u : Nat), u < 10 ^ (k + 1) → (Lib.decDigits u).length ≤ k + 1
  | 0, u, h => by rw [dd_small (by simpa using h)]; simp
  | k + 1, u, h => by
    by_cases h1 : u < 10
    · rw [dd_small h1]; simp
    · rw [dd_big h1]
      have := dd_len k (u / 10) (by rw [Nat.pow_succ] at h; omega)
      simp; omega
theorem pu_app : ∀ (l r : List UInt8) (acc v : Nat), Lib.parseUint10 acc l = .ok v → Lib.parseUint10 acc (l ++ r) = Lib.parseUint10 v r
  | [], r, acc, v, h => by simp only [Lib.parseUint10] at h; injection h with h; rw [h]; rfl
  | c :: l, r, acc, v, h => by
    rw [List.cons_append]
    simp only [Lib.parseUint10] at h ⊢
    split at h
    · rename_i hc; rw [if_pos hc]
      split at h
      · cases h
      · rename_i h1; rw [if_neg h1]
        split at h
        · cases h
        · rename_i h2; rw [if_neg h2]; exact pu_app l r _ v h
    · cases h
theorem pu_dd (u : Nat) (hu : u < 1000000000000) : Lib.parseUint10 0 (Lib.decDigits u) = .ok u := by
  induction u using Nat.strongRecOn with
  | ind u ih =>
    have one : ∀ (a d : Nat), d < 10 → a < 1000000000000 → Lib.parseUint10 a [UInt8.ofNat (48 + d)] = .ok (a * 10 + d) := by
      intro a d hd ha
      have e := (digit_of d hd).2
      simp only [Lib.parseUint10, e]
      rw [if_pos (by omega), if_neg (by omega), if_neg (by omega)]; congr 1; omega
    by_cases h : u < 10
    · rw [dd_small h, one 0 u h (by omega)]; congr 1; omega
    · rw [dd_big h, pu_app _ _ _ _ (ih (u / 10) (by omega) (by omega)), one (u / 10) (u % 10) (Nat.mod_lt _ (by decide)) (by omega)]; congr 1; omega
theorem itoa_neg (n : Int) (h : n < 0) : Lib.itoa n = 45 :: Lib.decDigits n.natAbs := by unfold Lib.itoa; rw [if_pos h]
theorem itoa_pos (n : Int) (h : ¬ n < 0) : Lib.itoa n = Lib.decDigits n.toNat := by unfold Lib.itoa; rw [if_neg h]
theorem atoi_itoa (n : Int) (h0 : -1000000000 ≤ n) (h1 : n ≤ 1000000000) : Lib.atoiAll (Lib.itoa n) = .ok n := by
  by_cases h : n < 0
  · rw [itoa_neg n h]
    have e : Lib.parseMag (Lib.decDigits n.natAbs) = .ok n.natAbs := by unfold Lib.parseMag; rw [if_neg (dd_some _), pu_dd _ (by omega)]
    have e45 : (45 : UInt8).toNat = 45 := rfl
    simp only [Lib.atoiAll, e45, e, or_true, if_true]
    rw [if_neg (by simp), if_neg (by omega)]; congr 1; omega
  · rw [itoa_pos n h]
    have e : Lib.parseMag (Lib.decDigits n.toNat) = .ok n.toNat := by unfold Lib.parseMag; rw [if_neg (dd_some _), pu_dd _ (by omega)]
    have al := dd_all n.toNat
    cases hd : Lib.decDigits n.toNat with
    | nil => exact absurd hd (dd_some _)
    | cons c r =>
      have hc := al c (by rw [hd]; exact List.mem_cons_self)
      unfold isDig at hc; have hc := of_decide_eq_true hc
      rw [hd] at e
      simp only [Lib.atoiAll]
      rw [if_neg (by omega), e]
      simp only []
      rw [if_neg (by omega), if_neg (by omega), if_neg (by omega)]; congr 1; omega
/-- Where the number that begins a text ends. -/
def numEnd (t : List UInt8) : Nat := 1 + ((t.drop 1).takeWhile isDig).length
def place (s : List UInt8) : List UInt8 := s.drop (Lib.indexAny s dm).toNat
def num1 (s : List UInt8) : Option (Int × List UInt8) :=
  if Lib.indexAny s dm < 0 then none
  else match Lib.atoiAll ((place s).take (numEnd (place s))) with
    | .ok v => some (v, (place s).drop (numEnd (place s)))
    | _ => none
def numsV : Nat → List UInt8 → List Int
  | 0, _ => []
  | k + 1, s => match num1 s with
    | none => []
    | some p => p.1 :: numsV k p.2

def NoDm (pre : List UInt8) : Prop := ∀ b ∈ pre, dm.contains b = false
def NoHead (post : List UInt8) : Prop := ∀ b r, post = b :: r → isDig b = false
theorem ia_app : ∀ (pre : List UInt8) (c : UInt8) (r : List UInt8), NoDm pre → dm.contains c = true → Lib.indexAny (pre ++ c :: r) dm = pre.length
  | [], c, r, _, hc => by simp only [List.nil_append, Lib.indexAny, hc, if_true]; rfl
  | b :: pre, c, r, h, hc => by
    have ih := ia_app pre c r (fun x hx => h x (List.mem_cons_of_mem _ hx)) hc
    rw [List.cons_append]
    simp only [Lib.indexAny, h b List.mem_cons_self, ih]
    rw [if_neg (by simp), if_neg (by simp)]; simp
theorem tw_app (l post : List UInt8) (h : ∀ b ∈ l, isDig b = true) (hp : NoHead post) : (l ++ post).takeWhile isDig = l := by
  induction l with
  | nil =>
    cases post with
    | nil => rfl
    | cons b r => rw [List.nil_append, List.takeWhile_cons, hp b r rfl]; rfl
  | cons a l ih =>
    rw [List.cons_append, List.takeWhile_cons, h a List.mem_cons_self, if_pos rfl, ih (fun b hb => h b (List.mem_cons_of_mem _ hb))]
theorem itoa_cons (n : Int) : ∃ c r, Lib.itoa n = c :: r ∧ dm.contains c = true ∧ ∀ b ∈ r, isDig b = true := by
  by_cases h : n < 0
  · exact ⟨45, _, itoa_neg n h, by decide +kernel, dd_all _⟩
  · have al := dd_all n.toNat
    cases hd : Lib.decDigits n.toNat with
    | nil => exact absurd hd (dd_some _)
    | cons c r =>
      rw [hd] at al
      refine ⟨c, r, by rw [itoa_pos n h, hd], ?_, fun b hb => al b (List.mem_cons_of_mem _ hb)⟩
      rw [dm_eq, al c List.mem_cons_self]; simp
theorem num1_at (pre post : List UInt8) (n : Int) (h0 : -1000000000 ≤ n) (h1 : n ≤ 1000000000) (hpre : NoDm pre) (hpost : NoHead post) :
    num1 (pre ++ (Lib.itoa n ++ post)) = some (n, post) := by
  obtain ⟨c, r, e, hc, hr⟩ := itoa_cons n
  have hi : Lib.indexAny (pre ++ (Lib.itoa n ++ post)) dm = pre.length := by rw [e, List.cons_append]; exact ia_app pre c _ hpre hc
  have hp : place (pre ++ (Lib.itoa n ++ post)) = Lib.itoa n ++ post := by
    unfold place; rw [hi]; simp
  have hne : numEnd (Lib.itoa n ++ post) = (Lib.itoa n).length := by
    unfold numEnd; rw [e]; simp only [List.cons_append, List.drop_succ_cons, List.drop_zero, List.length_cons]
    rw [tw_app r post hr hpost]; omega
  unfold num1
  rw [if_neg (by rw [hi]; omega), hp, hne]
  rw [show (Lib.itoa n ++ post).take (Lib.itoa n).length = Lib.itoa n by simp, atoi_itoa n h0 h1]
  simp
end As
end Go.Proofs.YtdjladaefoedfaaDoor
namespace Go.Proofs.YtdjladaefoedfaaDoor
open Go.RowKit
namespace As
open Ip

structure Ins where
  op : Int
  rd : Int
  rs1 : Int
  rs2 : Int
  imm : Int

theorem Ins.same {x y : Ins} (h : x.op = y.op ∧ x.rd = y.rd ∧ x.rs1 = y.rs1 ∧ x.rs2 = y.rs2 ∧ x.imm = y.imm) : x = y := by
  cases x; cases y; simp only [] at h; simp [h]
def Ins.ok (x : Ins) : Bool := right x.op x.rd x.rs1 x.rs2 x.imm
/-- A kind's form; 77 of those of the form 73 whose text has brackets. -/
def sh (op : Int) : Nat := if op = 3 ∨ op = 10 ∨ op = 11 ∨ op = 12 ∨ op = 13 ∨ op = 14 then 77 else frm op
def rg (r : Int) : List UInt8 := 120 :: Lib.itoa r
def plc (x : Ins) : List UInt8 := Lib.itoa x.imm ++ ([40] ++ (rg x.rs1 ++ [41]))
def prts (x : Ins) : List (List UInt8) :=
  if sh x.op = 85 ∨ sh x.op = 74 then [rg x.rd, Lib.itoa x.imm]
  else if sh x.op = 82 then [rg x.rd, rg x.rs1, rg x.rs2]
  else if sh x.op = 66 then [rg x.rs1, rg x.rs2, Lib.itoa x.imm]
  else if sh x.op = 83 then [rg x.rs2, plc x]
  else if sh x.op = 77 then [rg x.rd, plc x]
  else if sh x.op = 73 ∨ sh x.op = 72 then [rg x.rd, rg x.rs1, Lib.itoa x.imm]
  else []
def txt (x : Ins) : List UInt8 := if prts x = [] then name x.op else name x.op ++ ([32] ++ Lib.join (prts x) [44, 32])

def gs (op : Int) (s : List UInt8) : Ins :=
  if sh op = 85 ∨ sh op = 74 then ⟨op, (numsV 2 s).getD 0 0, 0, 0, (numsV 2 s).getD 1 0⟩
  else if sh op = 82 then ⟨op, (numsV 3 s).getD 0 0, (numsV 3 s).getD 1 0, (numsV 3 s).getD 2 0, 0⟩
  else if sh op = 66 then ⟨op, 0, (numsV 3 s).getD 0 0, (numsV 3 s).getD 1 0, (numsV 3 s).getD 2 0⟩
  else if sh op = 83 then ⟨op, 0, (numsV 3 s).getD 2 0, (numsV 3 s).getD 0 0, (numsV 3 s).getD 1 0⟩
  else if sh op = 77 then ⟨op, (numsV 3 s).getD 0 0, (numsV 3 s).getD 2 0, 0, (numsV 3 s).getD 1 0⟩
  else if sh op = 73 ∨ sh op = 72 then ⟨op, (numsV 3 s).getD 0 0, (numsV 3 s).getD 1 0, 0, (numsV 3 s).getD 2 0⟩
  else ⟨op, 0, 0, 0, 0⟩
/-- What stands ahead of the first byte c, and behind it. -/
def upTo (c : UInt8) (s : List UInt8) : List UInt8 := if 0 ≤ Lib.indexByte s c then s.take (Lib.indexByte s c).toNat else s
def behind (c : UInt8) (s : List UInt8) : List UInt8 := if 0 ≤ Lib.indexByte s c then s.drop ((Lib.indexByte s c).toNat + 1) else []
def prs (s : List UInt8) : Option Ins :=
  if byV (upTo 32 s) < 0 then none
  else if (gs (byV (upTo 32 s)) (behind 32 s)).ok = true ∧ txt (gs (byV (upTo 32 s)) (behind 32 s)) = s then some (gs (byV (upTo 32 s)) (behind 32 s)) else none

theorem ib_app : ∀ (a : List UInt8) (c : UInt8) (r : List UInt8), (∀ b ∈ a, b ≠ c) → Lib.indexByte (a ++ c :: r) c = a.length
  | [], c, r, _ => by simp [Lib.indexByte]
  | b :: a, c, r, h => by
    have ih := ib_app a c r (fun x hx => h x (List.mem_cons_of_mem _ hx))
    have hb : (b == c) = false := beq_eq_false_iff_ne.2 (h b List.mem_cons_self)
    rw [List.cons_append]; simp only [Lib.indexByte, hb, ih]
    rw [if_neg (by simp), if_neg (by simp)]; simp
theorem ib_none : ∀ (a : List UInt8) (c : UInt8), (∀ b ∈ a, b ≠ c) → Lib.indexByte a c = -1
  | [], c, _ => rfl
  | b :: a, c, h => by
    have ih := ib_none a c (fun x hx => h x (List.mem_cons_of_mem _ hx))
    have hb : (b == c) = false := beq_eq_false_iff_ne.2 (h b List.mem_cons_self)
    simp only [Lib.indexByte, hb, ih]; simp
theorem upTo_app (a r : List UInt8) (c : UInt8) (h : ∀ b ∈ a, b ≠ c) : upTo c (a ++ c :: r) = a := by
  unfold upTo; rw [ib_app a c r h, if_pos (by omega)]; simp
theorem behind_app (a r : List UInt8) (c : UInt8) (h : ∀ b ∈ a, b ≠ c) : behind c (a ++ c :: r) = r := by
  unfold behind; rw [ib_app a c r h, if_pos (by omega)]; simp
theorem upTo_none (a : List UInt8) (c : UInt8) (h : ∀ b ∈ a, b ≠ c) : upTo c a = a := by
  unfold upTo; rw [ib_none a c h, if_neg (by decide)]
theorem behind_none (a : List UInt8) (c : UInt8) (h : ∀ b ∈ a, b ≠ c) : behind c a = [] := by
  unfold behind; rw [ib_none a c h, if_neg (by decide)]

/-- What a right instruction's prts are. -/
structure Fine (x : Ins) : Prop where
  op0 : 0 ≤ x.op
  op1 : x.op < 47
  rd0 : 0 ≤ x.rd
  rd1 : x.rd ≤ 31
  a0 : 0 ≤ x.rs1
  a1 : x.rs1 ≤ 31
  b0 : 0 ≤ x.rs2
  b1 : x.rs2 ≤ 31
  n0 : -1048576 ≤ x.imm
  n1 : x.imm ≤ 1048575
theorem fit_le {r : Int} {b : Bool} (h : fit r b = true) : 0 ≤ r ∧ r ≤ 31 := by
  unfold fit at h; split at h
  · exact of_decide_eq_true h
  · have := of_decide_eq_true h; omega
theorem fit_no {r : Int} {b : Bool} (h : fit r b = true) (hb : b = false) : r = 0 := by
  unfold fit at h; rw [hb] at h; simpa using h
theorem right_parts {x : Ins} (h : x.ok = true) : frm x.op ≠ 0 ∧ fit x.rd (hRd (frm x.op)) = true ∧ fit x.rs1 (hRs1 (frm x.op)) = true ∧ fit x.rs2 (hRs2 (frm x.op)) = true ∧ inSpan (lo (frm x.op)) (hi (frm x.op)) (st (frm x.op)) x.imm = true := by
  unfold Ins.ok right at h
  simp only [Bool.and_eq_true] at h
  exact ⟨of_decide_eq_true h.1.1.1.1, h.1.1.1.2, h.1.1.2, h.1.2, h.2⟩
theorem frm_op (op : Int) (h : frm op ≠ 0) : 0 ≤ op ∧ op < 47 := by
  unfold frm at h; split at h
  · refine ⟨by assumption, ?_⟩
    by_cases h47 : op < 47
    · exact h47
    · exact absurd (kf_zero op.toNat (by omega)) h
  · exact absurd rfl h
theorem lo_ge (f : Nat) : -1048576 ≤ lo f := by unfold lo; (repeat' split) <;> omega
theorem hi_le (f : Nat) : hi f ≤ 1048575 := by unfold hi; (repeat' split) <;> omega
theorem fine_of {x : Ins} (h : x.ok = true) : Fine x := by
  obtain ⟨h1, h2, h3, h4, h5⟩ := right_parts h
  have := frm_op _ h1; have a := fit_le h2; have b := fit_le h3; have c := fit_le h4
  have d := of_decide_eq_true h5; have e := lo_ge (frm x.op); have f := hi_le (frm x.op)
  exact ⟨this.1, this.2, a.1, a.2, b.1, b.2, c.1, c.2, by omega, by omega⟩

theorem nodm_x : NoDm [120] := by unfold NoDm; decide +kernel
theorem nodm_cx : NoDm [44, 32, 120] := by unfold NoDm; decide +kernel
theorem nodm_c : NoDm [44, 32] := by unfold NoDm; decide +kernel
theorem nodm_p : NoDm [40, 120] := by unfold NoDm; decide +kernel
theorem nohead_nil : NoHead [] := fun b r h => by cases h
theorem nohead_cons (c : UInt8) (r : List UInt8) (h : isDig c = false) : NoHead (c :: r) := fun b r' e => by injection e with e1 e2; rw [← e1]; exact h
theorem nohead_c (r : List UInt8) : NoHead (44 :: r) := nohead_cons _ _ (by decide +kernel)
theorem nohead_p (r : List UInt8) : NoHead (40 :: r) := nohead_cons _ _ (by decide +kernel)
theorem nohead_q (r : List UInt8) : NoHead (41 :: r) := nohead_cons _ _ (by decide +kernel)

def Sm (n : Int) : Prop := -1000000000 ≤ n ∧ n ≤ 1000000000
theorem nums3 (a b c : Int) (p1 p2 p3 q : List UInt8) (ha : Sm a) (hb : Sm b) (hc : Sm c) (h1 : NoDm p1) (h2 : NoDm p2) (h3 : NoDm p3) (k2 : NoHead (p2 ++ (Lib.itoa b ++ (p3 ++ (Lib.itoa c ++ q))))) (k3 : NoHead (p3 ++ (Lib.itoa c ++ q))) (kq : NoHead q) :
    numsV 3 (p1 ++ (Lib.itoa a ++ (p2 ++ (Lib.itoa b ++ (p3 ++ (Lib.itoa c ++ q)))))) = [a, b, c] := by
  simp only [numsV]
  rw [num1_at p1 _ a ha.1 ha.2 h1 k2]; simp only []
  rw [num1_at p2 _ b hb.1 hb.2 h2 k3]; simp only []
  rw [num1_at p3 _ c hc.1 hc.2 h3 kq]
theorem nums2 (a b : Int) (p1 p2 q : List UInt8) (ha : Sm a) (hb : Sm b) (h1 : NoDm p1) (h2 : NoDm p2) (k2 : NoHead (p2 ++ (Lib.itoa b ++ q))) (kq : NoHead q) :
    numsV 2 (p1 ++ (Lib.itoa a ++ (p2 ++ (Lib.itoa b ++ q)))) = [a, b] := by
  simp only [numsV]
  rw [num1_at p1 _ a ha.1 ha.2 h1 k2]; simp only []
  rw [num1_at p2 _ b hb.1 hb.2 h2 kq]

theorem join2 (a b s : List UInt8) : Lib.join [a, b] s = a ++ (s ++ b) := by simp [Lib.join_cons, Lib.joinTail]
theorem join3 (a b c s : List UInt8) : Lib.join [a, b, c] s = a ++ (s ++ (b ++ (s ++ c))) := by simp [Lib.join_cons, Lib.joinTail]

/-- The forms that a right instruction can have, with what it lacks. -/
def Shape (x : Ins) : Prop :=
  ((sh x.op = 85 ∨ sh x.op = 74) ∧ (x.rs1 = 0) ∧ (x.rs2 = 0)) ∨
  ((sh x.op = 82) ∧ (x.imm = 0)) ∨
  ((sh x.op = 66) ∧ (x.rd = 0)) ∨
  ((sh x.op = 83) ∧ (x.rd = 0)) ∨
  ((sh x.op = 77) ∧ (x.rs2 = 0)) ∨
  ((sh x.op = 73 ∨ sh x.op = 72) ∧ (x.rs2 = 0)) ∨
  ((sh x.op = 69) ∧ (x.rd = 0) ∧ (x.rs1 = 0) ∧ (x.rs2 = 0) ∧ (x.imm = 0))
theorem Shape.U {x : Ins} (h : sh x.op = 85 ∨ sh x.op = 74) (a : x.rs1 = 0) (b : x.rs2 = 0) : Shape x := .inl ⟨h, a, b⟩
theorem Shape.R {x : Ins} (h : sh x.op = 82) (n : x.imm = 0) : Shape x := .inr (.inl ⟨h, n⟩)
theorem Shape.B {x : Ins} (h : sh x.op = 66) (d : x.rd = 0) : Shape x := .inr (.inr (.inl ⟨h, d⟩))
theorem Shape.S {x : Ins} (h : sh x.op = 83) (d : x.rd = 0) : Shape x := .inr (.inr (.inr (.inl ⟨h, d⟩)))
theorem Shape.M {x : Ins} (h : sh x.op = 77) (b : x.rs2 = 0) : Shape x := .inr (.inr (.inr (.inr (.inl ⟨h, b⟩))))
theorem Shape.I {x : Ins} (h : sh x.op = 73 ∨ sh x.op = 72) (b : x.rs2 = 0) : Shape x := .inr (.inr (.inr (.inr (.inr (.inl ⟨h, b⟩)))))
theorem Shape.E {x : Ins} (h : sh x.op = 69) (d : x.rd = 0) (a : x.rs1 = 0) (b : x.rs2 = 0) (n : x.imm = 0) : Shape x := .inr (.inr (.inr (.inr (.inr (.inr ⟨h, d, a, b, n⟩)))))
theorem frm_M (op : Int) (h : op = 3 ∨ op = 10 ∨ op = 11 ∨ op = 12 ∨ op = 13 ∨ op = 14) : frm op = 73 := by
  rcases h with h | h | h | h | h | h <;> (subst h; decide +kernel)
theorem shape_of {x : Ins} (h : x.ok = true) : Shape x := by
  obtain ⟨h1, h2, h3, h4, h5⟩ := right_parts h
  have d := of_decide_eq_true h5
  have h8 : is8 (frm x.op) := by
    have := frm_op _ h1; unfold frm; rw [if_pos this.1]; exact is8_kf _ (by omega)
  by_cases hm : x.op = 3 ∨ x.op = 10 ∨ x.op = 11 ∨ x.op = 12 ∨ x.op = 13 ∨ x.op = 14
  · have hf := frm_M _ hm
    rw [hf] at h4
    exact .M (by unfold sh; rw [if_pos hm]) (fit_no h4 (by decide +kernel))
  · have hs : sh x.op = frm x.op := by unfold sh; rw [if_neg hm]
    unfold is8 at h8
    rcases h8 with e | e | e | e | e | e | e | e <;> rw [e] at h2 h3 h4 d
    · exact .U (by rw [hs, e]; simp) (fit_no h3 (by decide +kernel)) (fit_no h4 (by decide +kernel))
    · exact .U (by rw [hs, e]; simp) (fit_no h3 (by decide +kernel)) (fit_no h4 (by decide +kernel))
    · exact .I (by rw [hs, e]; simp) (fit_no h4 (by decide +kernel))
    · exact .I (by rw [hs, e]; simp) (fit_no h4 (by decide +kernel))
    · exact .B (by rw [hs, e]) (fit_no h2 (by decide +kernel))
    · exact .S (by rw [hs, e]) (fit_no h2 (by decide +kernel))
    · refine .R (by rw [hs, e]) ?_
      have a : lo 82 = 0 := by decide +kernel
      have b : hi 82 = 0 := by decide +kernel
      omega
    · refine .E (by rw [hs, e]) (fit_no h2 (by decide +kernel)) (fit_no h3 (by decide +kernel)) (fit_no h4 (by decide +kernel)) ?_
      have a : lo 69 = 0 := by decide +kernel
      have b : hi 69 = 0 := by decide +kernel
      omega

theorem Fine.sm {x : Ins} (h : Fine x) : Sm x.rd ∧ Sm x.rs1 ∧ Sm x.rs2 ∧ Sm x.imm := by
  obtain ⟨_, _, _, _, _, _, _, _, _, _⟩ := h
  unfold Sm; omega
/-- The prts of a right instruction's text, read. -/
theorem gs_parts {x : Ins} (h : x.ok = true) (hp : prts x ≠ []) : gs x.op (Lib.join (prts x) [44, 32]) = x := by
  obtain ⟨sd, sa, sb, sn⟩ := (fine_of h).sm
  cases x with
  | mk op rd rs1 rs2 imm =>
  simp only [] at sd sa sb sn
  rcases shape_of h with ⟨e, a, b⟩ | ⟨e, n⟩ | ⟨e, d⟩ | ⟨e, d⟩ | ⟨e, b⟩ | ⟨e, b⟩ | ⟨e, d, a, b, n⟩ <;> simp only [] at *
  · have hn := nums2 rd imm [120] [44, 32] [] sd sn nodm_x nodm_c (nohead_c _) nohead_nil
    simp only [List.append_nil, List.cons_append, List.nil_append] at hn
    unfold prts gs; simp only []
    rw [if_pos e, if_pos e, join2]; simp only [rg, List.cons_append, List.nil_append]
    rw [hn, a, b]; rfl
  · have hn := nums3 rd rs1 rs2 [120] [44, 32, 120] [44, 32, 120] [] sd sa sb nodm_x nodm_cx nodm_cx (nohead_c _) (nohead_c _) nohead_nil
    simp only [List.append_nil, List.cons_append, List.nil_append] at hn
    unfold prts gs; simp only []
    rw [if_neg (by omega), if_pos e, if_neg (by omega), if_pos e, join3]; simp only [rg, List.cons_append, List.nil_append]
    rw [hn, n]; rfl
  · have hn := nums3 rs1 rs2 imm [120] [44, 32, 120] [44, 32] [] sa sb sn nodm_x nodm_cx nodm_c (nohead_c _) (nohead_c _) nohead_nil
    simp only [List.append_nil, List.cons_append, List.nil_append] at hn
    unfold prts gs; simp only []
    rw [if_neg (by omega), if_neg (by omega), if_pos e, if_neg (by omega), if_neg (by omega), if_pos e, join3]; simp only [rg, List.cons_append, List.nil_append]
    rw [hn, d]; rfl
  · have hn := nums3 rs2 imm rs1 [120] [44, 32] [40, 120] [41] sb sn sa nodm_x nodm_c nodm_p (nohead_c _) (nohead_p _) (nohead_q _)
    simp only [List.cons_append, List.nil_append] at hn
    unfold prts gs; simp only []
    rw [if_neg (by omega), if_neg (by omega), if_neg (by omega), if_pos e, if_neg (by omega), if_neg (by omega), if_neg (by omega), if_pos e, join2]; simp only [rg, plc, List.cons_append, List.nil_append]
    rw [hn, d]; rfl
  · have hn := nums3 rd imm rs1 [120] [44, 32] [40, 120] [41] sd sn sa nodm_x nodm_c nodm_p (nohead_c _) (nohead_p _) (nohead_q _)
    simp only [List.cons_append, List.nil_append] at hn
    unfold prts gs; simp only []
    rw [if_neg (by omega), if_neg (by omega), if_neg (by omega), if_neg (by omega), if_pos e, if_neg (by omega), if_neg (by omega), if_neg (by omega), if_neg (by omega), if_pos e, join2]; simp only [rg, plc, List.cons_append, List.nil_append]
    rw [hn, b]; rfl
  · have hn := nums3 rd rs1 imm [120] [44, 32, 120] [44, 32] [] sd sa sn nodm_x nodm_cx nodm_c (nohead_c _) (nohead_c _) nohead_nil
    simp only [List.append_nil, List.cons_append, List.nil_append] at hn
    unfold prts gs; simp only []
    rw [if_neg (by omega), if_neg (by omega), if_neg (by omega), if_neg (by omega), if_neg (by omega), if_pos e, if_neg (by omega), if_neg (by omega), if_neg (by omega), if_neg (by omega), if_neg (by omega), if_pos e, join3]; simp only [rg, List.cons_append, List.nil_append]
    rw [hn, b]; rfl
  · exact absurd (by unfold prts; simp [e]) hp
theorem gs_none {x : Ins} (h : x.ok = true) (hp : prts x = []) (s : List UInt8) : gs x.op s = x := by
  cases x with
  | mk op rd rs1 rs2 imm =>
  rcases shape_of h with ⟨e, a, b⟩ | ⟨e, n⟩ | ⟨e, d⟩ | ⟨e, d⟩ | ⟨e, b⟩ | ⟨e, b⟩ | ⟨e, d, a, b, n⟩ <;> simp only [] at *
  · unfold prts at hp; simp only [] at hp; rw [if_pos e] at hp; cases hp
  · unfold prts at hp; simp [e] at hp
  · unfold prts at hp; simp [e] at hp
  · unfold prts at hp; simp [e] at hp
  · unfold prts at hp; simp [e] at hp
  · unfold prts at hp; simp only [] at hp; rw [if_neg (by omega), if_neg (by omega), if_neg (by omega), if_neg (by omega), if_neg (by omega), if_pos e] at hp; cases hp
  · subst d; subst a; subst b; subst n; unfold gs; simp [e]
theorem name_at {x : Ins} (h : x.ok = true) : name x.op = nm x.op.toNat ∧ byV (name x.op) = x.op := by
  have f := fine_of h
  have e : name x.op = nm x.op.toNat := by unfold name; rw [if_pos f.op0]
  refine ⟨e, ?_⟩; rw [e, byV_nm _ (by have := f.op1; have := f.op0; omega)]; have := f.op0; omega
theorem name_no (op : Int) (c : UInt8) (hc : c.toNat < 97) : ∀ b ∈ name op, b ≠ c := by
  intro b hb e
  unfold name at hb; split at hb
  · have := nm_small _ b hb; rw [e] at this; omega
  · simp at hb
theorem prs_txt {x : Ins} (h : x.ok = true) : prs (txt x) = some x := by
  have hn := name_at h
  have key : upTo 32 (txt x) = name x.op ∧ gs x.op (behind 32 (txt x)) = x := by
    unfold txt
    by_cases hp : prts x = []
    · rw [if_pos hp]
      exact ⟨upTo_none _ _ (name_no _ _ (by decide)), gs_none h hp _⟩
    · rw [if_neg hp]
      refine ⟨upTo_app _ _ _ (name_no _ _ (by decide)), ?_⟩
      rw [show name x.op ++ ([32] ++ Lib.join (prts x) [44, 32]) = name x.op ++ 32 :: Lib.join (prts x) [44, 32] from rfl, behind_app _ _ _ (name_no _ _ (by decide))]
      exact gs_parts h hp
  have f := fine_of h
  unfold prs
  rw [key.1, hn.2, key.2, if_neg (by have := f.op0; omega), if_pos ⟨h, rfl⟩]
theorem prs_some {s : List UInt8} {x : Ins} (h : prs s = some x) : x.ok = true ∧ txt x = s := by
  unfold prs at h; split at h
  · cases h
  · split at h
    · rename_i hc; injection h with h; rw [← h]; exact hc
    · cases h
theorem txt_inj {x y : Ins} (hx : x.ok = true) (hy : y.ok = true) (h : txt x = txt y) : x = y := by
  have a := prs_txt hx; rw [h, prs_txt hy] at a; injection a with a; exact a.symm
end As
end Go.Proofs.YtdjladaefoedfaaDoor
namespace Go.Proofs.YtdjladaefoedfaaDoor
open Go.RowKit
namespace As
open Ip

def valF (a : Nat) (l : List UInt8) : Nat := l.foldl (fun a c => 10 * a + (c.toNat - 48)) a
def valD (l : List UInt8) : Nat := valF 0 l
theorem valF_snoc (a : Nat) (l : List UInt8) (c : UInt8) : valF a (l ++ [c]) = 10 * valF a l + (c.toNat - 48) := by unfold valF; rw [List.foldl_append]; rfl
theorem valD_dd (u : Nat) : valD (Lib.decDigits u) = u := by
  induction u using Nat.strongRecOn with
  | ind u ih =>
    by_cases h : u < 10
    · rw [dd_small h]; unfold valD valF; rw [List.foldl_cons, List.foldl_nil, (digit_of u h).2]; omega
    · rw [dd_big h]; unfold valD; rw [valF_snoc, (digit_of _ (Nat.mod_lt _ (by decide))).2]
      have := ih (u / 10) (by omega); unfold valD at this; rw [this]; omega
def dgs (l : List UInt8) : List UInt8 := (l.takeWhile isDig).take 7
def sg (neg : Bool) (n : Nat) : Int := if neg = true then -(n : Int) else n
/-- The numbers in a text, at most m: whether the byte ahead is 45. -/
def rnF : Nat → Nat → Bool → List UInt8 → List Int
  | 0, _, _, _ => []
  | _ + 1, 0, _, _ => []
  | _ + 1, _ + 1, _, [] => []
  | f + 1, m + 1, neg, c :: r => if isDig c = true then sg neg (valD (dgs (c :: r))) :: rnF f m false ((c :: r).drop (dgs (c :: r)).length) else rnF f (m + 1) (decide (c.toNat = 45)) r
theorem rnF_m0 (f : Nat) (neg : Bool) (l : List UInt8) : rnF f 0 neg l = [] := by cases f <;> rfl
theorem rnF_nil (f m : Nat) (neg : Bool) : rnF f m neg [] = [] := by
  cases f with
  | zero => rfl
  | succ f => cases m <;> rfl
theorem dgs_pos (c : UInt8) (r : List UInt8) (h : isDig c = true) : 1 ≤ (dgs (c :: r)).length := by
  unfold dgs; rw [List.takeWhile_cons, h]; simp
theorem rnF_enough : ∀ (f g m : Nat) (neg : Bool) (l : List UInt8), l.length ≤ f → l.length ≤ g → rnF f m neg l = rnF g m neg l
  | f, g, 0, neg, l, _, _ => by rw [rnF_m0, rnF_m0]
  | f, g, m + 1, neg, [], _, _ => by rw [rnF_nil, rnF_nil]
  | 0, g, m + 1, neg, c :: r, h, _ => by simp at h
  | f + 1, 0, m + 1, neg, c :: r, _, h => by simp at h
  | f + 1, g + 1, m + 1, neg, c :: r, h1, h2 => by
    simp only [rnF]
    simp only [List.length_cons] at h1 h2
    split
    · rename_i hc
      have := dgs_pos c r hc
      rw [rnF_enough f g m false _ (by simp; omega) (by simp; omega)]
    · rw [rnF_enough f g (m + 1) _ r (by omega) (by omega)]
def rn (m : Nat) (neg : Bool) (l : List UInt8) : List Int := rnF l.length m neg l
theorem rnF_rn (f m : Nat) (neg : Bool) (l : List UInt8) (h : l.length ≤ f) : rnF f m neg l = rn m neg l := rnF_enough _ _ _ _ _ h (Nat.le_refl _)
theorem rn_nil (m : Nat) (neg : Bool) : rn m neg [] = [] := rnF_nil _ _ _
theorem rn_skip (m : Nat) (neg : Bool) (c : UInt8) (r : List UInt8) (hc : isDig c = false) : rn (m + 1) neg (c :: r) = rn (m + 1) (decide (c.toNat = 45)) r := by
  unfold rn; simp only [List.length_cons, rnF, hc]; rw [if_neg (by simp)]
theorem rn_num (m : Nat) (neg : Bool) (c : UInt8) (r : List UInt8) (hc : isDig c = true) : rn (m + 1) neg (c :: r) = sg neg (valD (dgs (c :: r))) :: rn m false ((c :: r).drop (dgs (c :: r)).length) := by
  have := dgs_pos c r hc
  unfold rn; simp only [List.length_cons, rnF]; rw [if_pos hc]
  congr 1; exact rnF_enough _ _ _ _ _ (by simp; omega) (Nat.le_refl _)
theorem rn_pre (m : Nat) : ∀ (pre : List UInt8) (neg : Bool) (r : List UInt8), NoDm pre → pre ≠ [] → rn (m + 1) neg (pre ++ r) = rn (m + 1) false r
  | [], _, _, _, h => absurd rfl h
  | c :: p, neg, r, h, _ => by
    have hc := h c List.mem_cons_self
    rw [dm_eq] at hc; simp only [Bool.or_eq_false_iff] at hc
    rw [List.cons_append, rn_skip m neg c _ hc.2, hc.1]
    by_cases hp : p = []
    · rw [hp]; rfl
    · exact rn_pre m p _ r (fun b hb => h b (List.mem_cons_of_mem _ hb)) hp
theorem rn_digits (m : Nat) (neg : Bool) (u : Nat) (post : List UInt8) (hu : u < 10000000) (hp : NoHead post) : rn (m + 1) neg (Lib.decDigits u ++ post) = sg neg u :: rn m false post := by
  have al := dd_all u
  have hl : (Lib.decDigits u).length ≤ 7 := dd_len 6 u (by omega)
  have hv := valD_dd u
  cases hd : Lib.decDigits u with
  | nil => exact absurd hd (dd_some _)
  | cons c r =>
    rw [hd] at al hl hv
    have hdg : dgs ((c :: r) ++ post) = c :: r := by
      unfold dgs; rw [tw_app _ _ al hp, List.take_of_length_le hl]
    rw [List.cons_append] at hdg ⊢
    rw [rn_num m neg c _ (al c List.mem_cons_self), hdg, hv]
    rw [show (c :: (r ++ post)).drop (c :: r).length = post by simp]
theorem rn_itoa (m : Nat) (n : Int) (post : List UInt8) (h0 : -10000000 < n) (h1 : n < 10000000) (hp : NoHead post) : rn (m + 1) false (Lib.itoa n ++ post) = n :: rn m false post := by
  by_cases h : n < 0
  · rw [itoa_neg n h, List.cons_append, rn_skip m false 45 _ (by decide +kernel)]
    rw [show decide ((45 : UInt8).toNat = 45) = true from rfl, rn_digits m true _ post (by omega) hp]
    congr 1; unfold sg; rw [if_pos rfl]; omega
  · rw [itoa_pos n h, rn_digits m false _ post (by omega) hp]
    congr 1; unfold sg; rw [if_neg (by simp)]; omega

def Sm7 (n : Int) : Prop := -10000000 < n ∧ n < 10000000
theorem rn3 (a b c : Int) (p1 p2 p3 q : List UInt8) (ha : Sm7 a) (hb : Sm7 b) (hc : Sm7 c) (h1 : NoDm p1) (h2 : NoDm p2) (h3 : NoDm p3) (s1 : p1 ≠ []) (s2 : p2 ≠ []) (s3 : p3 ≠ []) (k2 : NoHead (p2 ++ (Lib.itoa b ++ (p3 ++ (Lib.itoa c ++ q))))) (k3 : NoHead (p3 ++ (Lib.itoa c ++ q))) (kq : NoHead q) (hq : rn 1 false q = []) :
    rn 4 false (p1 ++ (Lib.itoa a ++ (p2 ++ (Lib.itoa b ++ (p3 ++ (Lib.itoa c ++ q)))))) = [a, b, c] := by
  rw [rn_pre 3 p1 _ _ h1 s1, rn_itoa 3 a _ ha.1 ha.2 k2, rn_pre 2 p2 _ _ h2 s2, rn_itoa 2 b _ hb.1 hb.2 k3, rn_pre 1 p3 _ _ h3 s3, rn_itoa 1 c _ hc.1 hc.2 kq, hq]
theorem rn2 (a b : Int) (p1 p2 : List UInt8) (ha : Sm7 a) (hb : Sm7 b) (h1 : NoDm p1) (h2 : NoDm p2) (s1 : p1 ≠ []) (s2 : p2 ≠ []) (k2 : NoHead (p2 ++ (Lib.itoa b ++ []))) :
    rn 4 false (p1 ++ (Lib.itoa a ++ (p2 ++ (Lib.itoa b ++ [])))) = [a, b] := by
  rw [rn_pre 3 p1 _ _ h1 s1, rn_itoa 3 a _ ha.1 ha.2 k2, rn_pre 2 p2 _ _ h2 s2, rn_itoa 2 b _ hb.1 hb.2 nohead_nil, rn_nil]

def isM (op : Int) : Bool := decide (op = 3 ∨ (10 ≤ op ∧ op ≤ 14))
def fl (op : Int) (n : List Int) : Ins :=
  if frm op = 69 then ⟨op, 0, 0, 0, 0⟩
  else if n.length = 2 ∧ (frm op = 85 ∨ frm op = 74) then ⟨op, n.getD 0 0, 0, 0, n.getD 1 0⟩
  else if n.length ≠ 3 then ⟨-1, 0, 0, 0, 0⟩
  else if frm op = 82 then ⟨op, n.getD 0 0, n.getD 1 0, n.getD 2 0, 0⟩
  else if frm op = 66 then ⟨op, 0, n.getD 0 0, n.getD 1 0, n.getD 2 0⟩
  else if frm op = 83 then ⟨op, 0, n.getD 2 0, n.getD 0 0, n.getD 1 0⟩
  else if isM op = true then ⟨op, n.getD 0 0, n.getD 2 0, 0, n.getD 1 0⟩
  else ⟨op, n.getD 0 0, n.getD 1 0, 0, n.getD 2 0⟩
/-- What stands from the first byte c on. -/
def onward (c : UInt8) (s : List UInt8) : List UInt8 := if 0 ≤ Lib.indexByte s c then s.drop (Lib.indexByte s c).toNat else []
theorem onward_app (a r : List UInt8) (c : UInt8) (h : ∀ b ∈ a, b ≠ c) : onward c (a ++ c :: r) = c :: r := by
  unfold onward; rw [ib_app a c r h, if_pos (by omega)]; simp
theorem onward_none (a : List UInt8) (c : UInt8) (h : ∀ b ∈ a, b ≠ c) : onward c a = [] := by
  unfold onward; rw [ib_none a c h, if_neg (by decide)]
def rgs (s : List UInt8) : Ins := fl (byV (upTo 32 s)) (rn 4 false (onward 32 s))
def rprs (s : List UInt8) : Option Ins := if (rgs s).ok = true ∧ txt (rgs s) = s then some (rgs s) else none

theorem sh_frm (op : Int) (h : sh op ≠ 77) : sh op = frm op ∧ isM op = false := by
  unfold sh at h ⊢; split at h
  · exact absurd rfl h
  · rename_i hm; rw [if_neg hm]; refine ⟨rfl, ?_⟩; unfold isM; rw [decide_eq_false_iff_not]; omega
theorem kf_ne77 (k : Nat) : kf k ≠ 77 := by
  by_cases h : k < 47
  · have := is8_kf k h; unfold is8 at this; omega
  · rw [kf_zero k (by omega)]; decide
theorem sh_77 (op : Int) (h : sh op = 77) : frm op = 73 ∧ isM op = true := by
  by_cases hm : op = 3 ∨ op = 10 ∨ op = 11 ∨ op = 12 ∨ op = 13 ∨ op = 14
  · exact ⟨frm_M op hm, by unfold isM; rw [decide_eq_true_eq]; omega⟩
  · unfold sh at h; rw [if_neg hm] at h
    unfold frm at h; split at h
    · exact absurd h (kf_ne77 _)
    · exact absurd h (by decide)
theorem nodm_bx : NoDm [32, 120] := by unfold NoDm; decide +kernel
theorem Fine.sm7 {x : Ins} (h : Fine x) : Sm7 x.rd ∧ Sm7 x.rs1 ∧ Sm7 x.rs2 ∧ Sm7 x.imm := by
  obtain ⟨_, _, _, _, _, _, _, _, _, _⟩ := h
  unfold Sm7; omega
theorem rn_q : rn 1 false [41] = [] := by rw [rn_skip 0 false 41 [] (by decide +kernel), rn_nil]
theorem fl_parts {x : Ins} (h : x.ok = true) (hp : prts x ≠ []) : fl x.op (rn 4 false (32 :: Lib.join (prts x) [44, 32])) = x := by
  obtain ⟨sd, sa, sb, sn⟩ := (fine_of h).sm7
  cases x with
  | mk op rd rs1 rs2 imm =>
  simp only [] at sd sa sb sn
  rcases shape_of h with ⟨e, a, b⟩ | ⟨e, n⟩ | ⟨e, d⟩ | ⟨e, d⟩ | ⟨e, b⟩ | ⟨e, b⟩ | ⟨e, d, a, b, n⟩ <;> simp only [] at *
  · have hn := rn2 rd imm [32, 120] [44, 32] sd sn nodm_bx nodm_c (by simp) (by simp) (nohead_c _)
    simp only [List.append_nil, List.cons_append, List.nil_append] at hn
    have hs := (sh_frm op (by omega)).1
    unfold prts; simp only []
    rw [if_pos e, join2]; simp only [rg, List.cons_append, List.nil_append]
    rw [hn]; unfold fl; rw [if_neg (by omega), if_pos ⟨rfl, by rw [← hs]; exact e⟩, a, b]; rfl
  · have hn := rn3 rd rs1 rs2 [32, 120] [44, 32, 120] [44, 32, 120] [] sd sa sb nodm_bx nodm_cx nodm_cx (by simp) (by simp) (by simp) (nohead_c _) (nohead_c _) nohead_nil (rn_nil _ _)
    simp only [List.append_nil, List.cons_append, List.nil_append] at hn
    have hs := (sh_frm op (by omega)).1
    unfold prts; simp only []
    rw [if_neg (by omega), if_pos e, join3]; simp only [rg, List.cons_append, List.nil_append]
    rw [hn]; unfold fl; rw [if_neg (by omega), if_neg (by simp), if_neg (by simp), if_pos (by omega), n]; rfl
  · have hn := rn3 rs1 rs2 imm [32, 120] [44, 32, 120] [44, 32] [] sa sb sn nodm_bx nodm_cx nodm_c (by simp) (by simp) (by simp) (nohead_c _) (nohead_c _) nohead_nil (rn_nil _ _)
    simp only [List.append_nil, List.cons_append, List.nil_append] at hn
    have hs := (sh_frm op (by omega)).1
    unfold prts; simp only []
    rw [if_neg (by omega), if_neg (by omega), if_pos e, join3]; simp only [rg, List.cons_append, List.nil_append]
    rw [hn]; unfold fl; rw [if_neg (by omega), if_neg (by simp), if_neg (by simp), if_neg (by omega), if_pos (by omega), d]; rfl
  · have hn := rn3 rs2 imm rs1 [32, 120] [44, 32] [40, 120] [41] sb sn sa nodm_bx nodm_c nodm_p (by simp) (by simp) (by simp) (nohead_c _) (nohead_p _) (nohead_q _) rn_q
    simp only [List.cons_append, List.nil_append] at hn
    have hs := (sh_frm op (by omega)).1
    unfold prts; simp only []
    rw [if_neg (by omega), if_neg (by omega), if_neg (by omega), if_pos e, join2]; simp only [rg, plc, List.cons_append, List.nil_append]
    rw [hn]; unfold fl; rw [if_neg (by omega), if_neg (by simp), if_neg (by simp), if_neg (by omega), if_neg (by omega), if_pos (by omega), d]; rfl
  · have hn := rn3 rd imm rs1 [32, 120] [44, 32] [40, 120] [41] sd sn sa nodm_bx nodm_c nodm_p (by simp) (by simp) (by simp) (nohead_c _) (nohead_p _) (nohead_q _) rn_q
    simp only [List.cons_append, List.nil_append] at hn
    have hs := sh_77 op e
    unfold prts; simp only []
    rw [if_neg (by omega), if_neg (by omega), if_neg (by omega), if_neg (by omega), if_pos e, join2]; simp only [rg, plc, List.cons_append, List.nil_append]
    rw [hn]; unfold fl; rw [if_neg (by omega), if_neg (by simp), if_neg (by simp), if_neg (by omega), if_neg (by omega), if_neg (by omega), if_pos hs.2, b]; rfl
  · have hn := rn3 rd rs1 imm [32, 120] [44, 32, 120] [44, 32] [] sd sa sn nodm_bx nodm_cx nodm_c (by simp) (by simp) (by simp) (nohead_c _) (nohead_c _) nohead_nil (rn_nil _ _)
    simp only [List.append_nil, List.cons_append, List.nil_append] at hn
    have hs := sh_frm op (by omega)
    unfold prts; simp only []
    rw [if_neg (by omega), if_neg (by omega), if_neg (by omega), if_neg (by omega), if_neg (by omega), if_pos e, join3]; simp only [rg, List.cons_append, List.nil_append]
    rw [hn]; unfold fl; rw [if_neg (by omega), if_neg (by simp), if_neg (by simp), if_neg (by omega), if_neg (by omega), if_neg (by omega), if_neg (by rw [hs.2]; simp), b]; rfl
  · exact absurd (by unfold prts; simp [e]) hp
theorem fl_none {x : Ins} (h : x.ok = true) (hp : prts x = []) (n : List Int) : fl x.op n = x := by
  have hs : sh x.op = 69 := by
    rcases shape_of h with ⟨e, a, b⟩ | ⟨e, n⟩ | ⟨e, d⟩ | ⟨e, d⟩ | ⟨e, b⟩ | ⟨e, b⟩ | ⟨e, d, a, b, n⟩
    · unfold prts at hp; rw [if_pos e] at hp; cases hp
    · unfold prts at hp; simp [e] at hp
    · unfold prts at hp; simp [e] at hp
    · unfold prts at hp; simp [e] at hp
    · unfold prts at hp; simp [e] at hp
    · unfold prts at hp; rw [if_neg (by omega), if_neg (by omega), if_neg (by omega), if_neg (by omega), if_neg (by omega), if_pos e] at hp; cases hp
    · exact e
  have g := gs_none h hp []
  unfold gs at g; simp [hs] at g
  unfold fl; rw [if_pos (by rw [← (sh_frm x.op (by omega)).1]; exact hs)]; exact g
theorem rprs_txt {x : Ins} (h : x.ok = true) : rprs (txt x) = some x := by
  have hn := name_at h
  have key : rgs (txt x) = x := by
    unfold rgs txt
    by_cases hp : prts x = []
    · rw [if_pos hp, upTo_none _ _ (name_no _ _ (by decide)), hn.2]; exact fl_none h hp _
    · rw [if_neg hp, show name x.op ++ ([32] ++ Lib.join (prts x) [44, 32]) = name x.op ++ 32 :: Lib.join (prts x) [44, 32] from rfl, upTo_app _ _ _ (name_no _ _ (by decide)), onward_app _ _ _ (name_no _ _ (by decide)), hn.2]
      exact fl_parts h hp
  unfold rprs; rw [key, if_pos ⟨h, rfl⟩]
theorem rprs_eq (s : List UInt8) : rprs s = prs s := by
  by_cases h : (rgs s).ok = true ∧ txt (rgs s) = s
  · have := prs_txt h.1; rw [h.2] at this; rw [this]; unfold rprs; rw [if_pos h]
  · have e : rprs s = none := by unfold rprs; rw [if_neg h]
    rw [e]
    cases hp : prs s with
    | none => rfl
    | some x =>
      obtain ⟨a, b⟩ := prs_some hp
      have := rprs_txt a; rw [b, e] at this; cases this

/-! ### Lines -/
theorem itoa_bytes (n : Int) : ∀ b ∈ Lib.itoa n, b ≠ 10 := by
  intro b hb e
  by_cases h : n < 0
  · rw [itoa_neg n h] at hb
    rcases List.mem_cons.1 hb with hb | hb
    · rw [e] at hb; cases hb
    · have := dd_all _ b hb; rw [e] at this; revert this; decide +kernel
  · rw [itoa_pos n h] at hb; have := dd_all _ b hb; rw [e] at this; revert this; decide +kernel
theorem rg_bytes (n : Int) : ∀ b ∈ rg n, b ≠ 10 := by
  intro b hb; unfold rg at hb
  rcases List.mem_cons.1 hb with hb | hb
  · rw [hb]; decide
  · exact itoa_bytes n b hb
def No10 (l : List UInt8) : Prop := ∀ b ∈ l, b ≠ (10 : UInt8)
theorem No10.app {a b : List UInt8} (h : No10 a) (k : No10 b) : No10 (a ++ b) := fun x hx => by
  rcases List.mem_append.1 hx with hx | hx
  · exact h x hx
  · exact k x hx
theorem no10_lit (l : List UInt8) (h : l.all (fun b => b != 10) = true) : No10 l := fun x hx => by simpa using List.all_eq_true.1 h x hx
theorem plc_no10 (x : Ins) : No10 (plc x) := (show No10 (Lib.itoa x.imm) from itoa_bytes _).app ((no10_lit [40] (by decide +kernel)).app ((show No10 (rg x.rs1) from rg_bytes _).app (no10_lit [41] (by decide +kernel))))
theorem txt_no10 (x : Ins) : No10 (txt x) := by
  have hn : No10 (name x.op) := name_no _ _ (by decide)
  have h2 : No10 [44, 32] := no10_lit _ (by decide +kernel)
  have h1 : No10 [32] := no10_lit _ (by decide +kernel)
  have r : ∀ n, No10 (rg n) := rg_bytes
  have i : ∀ n, No10 (Lib.itoa n) := itoa_bytes
  have p := plc_no10 x
  unfold txt prts
  (repeat' split) <;> first
    | exact hn
    | (rw [join2]; first | exact hn.app (h1.app ((r _).app (h2.app (i _)))) | exact hn.app (h1.app ((r _).app (h2.app p))))
    | (rw [join3]; first | exact hn.app (h1.app ((r _).app (h2.app ((r _).app (h2.app (r _)))))) | exact hn.app (h1.app ((r _).app (h2.app ((r _).app (h2.app (i _))))))) 
    | (exfalso; simp_all)
def flat : List Ins → List UInt8
  | [] => []
  | x :: l => txt x ++ ([10] ++ flat l)
theorem flat_app (a b : List Ins) : flat (a ++ b) = flat a ++ flat b := by
  induction a with
  | nil => rfl
  | cons x a ih => simp [flat, ih]
def rdF : Nat → List UInt8 → Option (List Ins)
  | 0, s => if s = [] then some [] else none
  | f + 1, s => if s = [] then some [] else if Lib.indexByte s 10 < 0 then none else
      match prs (upTo 10 s) with
      | none => none
      | some x => match rdF f (behind 10 s) with
        | none => none
        | some l => some (x :: l)
theorem behind_lt (s : List UInt8) (h : ¬ Lib.indexByte s 10 < 0) : (behind 10 s).length < s.length ∧ (Lib.indexByte s 10).toNat < s.length := by
  have hl : Lib.indexByte s 10 < s.length := by
    clear h
    induction s with
    | nil => simp [Lib.indexByte]
    | cons b s ih =>
      unfold Lib.indexByte; split
      · simp
      · split
        · simp; omega
        · simp; omega
  refine ⟨?_, by omega⟩
  unfold behind; rw [if_pos (by omega)]; simp; omega
theorem rdF_enough : ∀ (f g : Nat) (s : List UInt8), s.length ≤ f → s.length ≤ g → rdF f s = rdF g s
  | 0, 0, s, _, _ => rfl
  | 0, g + 1, s, h, _ => by
    have : s = [] := List.length_eq_zero_iff.1 (by omega)
    subst this; simp [rdF]
  | f + 1, 0, s, _, h => by
    have : s = [] := List.length_eq_zero_iff.1 (by omega)
    subst this; simp [rdF]
  | f + 1, g + 1, s, h1, h2 => by
    simp only [rdF]
    split
    · rfl
    · split
      · rfl
      · rename_i hs hi
        have := (behind_lt s hi).1
        rw [rdF_enough f g (behind 10 s) (by omega) (by omega)]
def rd (s : List UInt8) : Option (List Ins) := rdF s.length s
theorem rd_nil : rd [] = some [] := rfl
theorem rd_step (s : List UInt8) (h : s ≠ []) : rd s = if Lib.indexByte s 10 < 0 then none else match prs (upTo 10 s) with
      | none => none
      | some x => match rd (behind 10 s) with
        | none => none
        | some l => some (x :: l) := by
  unfold rd
  cases s with
  | nil => exact absurd rfl h
  | cons b r =>
    rw [show (b :: r).length = r.length + 1 from rfl]; simp only [rdF]; rw [if_neg h]
    split
    · rfl
    · rename_i hi
      have := (behind_lt (b :: r) hi).1
      simp only [List.length_cons] at this
      rw [rdF_enough r.length (behind 10 (b :: r)).length _ (by omega) (Nat.le_refl _)]
theorem rd_line (a r : List UInt8) (h : No10 a) : rd (a ++ 10 :: r) = match prs a with
      | none => none
      | some x => match rd r with
        | none => none
        | some l => some (x :: l) := by
  rw [rd_step _ (by simp), ib_app a 10 r h, if_neg (by omega), upTo_app a r 10 h, behind_app a r 10 h]
theorem rd_flat (l : List Ins) (r : List UInt8) (h : ∀ x ∈ l, x.ok = true) : rd (flat l ++ r) = match rd r with
      | none => none
      | some m => some (l ++ m) := by
  induction l with
  | nil => simp only [flat, List.nil_append]; cases rd r <;> rfl
  | cons x l ih =>
    have ih := ih (fun y hy => h y (List.mem_cons_of_mem _ hy))
    rw [show flat (x :: l) ++ r = txt x ++ 10 :: (flat l ++ r) by simp [flat], rd_line _ _ (txt_no10 x), prs_txt (h x List.mem_cons_self), ih]
    cases rd r <;> rfl
theorem rd_no10 (a : List UInt8) (h : No10 a) (ha : a ≠ []) : rd a = none := by
  rw [rd_step a ha, ib_none a 10 h, if_pos (by decide)]
end As
end Go.Proofs.YtdjladaefoedfaaDoor
