/-
  A program's text, as plain lists: which segment it is, its words, its errors; with other words. No program text in sight.
-/
import Derived.Test.YtkfomhllaogplaaEP
namespace Go.Proofs.Ytkfomhllaogplaa
namespace El
open Classical

/-! ### bytes and words -/
def words : List UInt8 → List Nat
  | a :: b :: c :: e :: r => (a.toNat + 256 * b.toNat + 65536 * (c.toNat + 256 * e.toNat)) :: words r
  | _ => []
def bytesW (l : List Nat) : List UInt8 := l.flatMap b4
theorem bytesW_cons (n : Nat) (l : List Nat) : bytesW (n :: l) = b4 n ++ bytesW l := rfl
theorem bytesW_len (l : List Nat) : (bytesW l).length = 4 * l.length := by
  induction l with
  | nil => rfl
  | cons n l ih => rw [bytesW_cons, List.length_append, ih, List.length_cons]; simp [b4]; omega
theorem bytesW_app (l r : List Nat) : bytesW (l ++ r) = bytesW l ++ bytesW r := by simp [bytesW]
theorem words_len (d : List UInt8) : (words d).length = d.length / 4 := by
  fun_induction words d with
  | case1 a b c e r ih => rw [List.length_cons, ih]; simp only [List.length_cons]; omega
  | case2 d h =>
    match d, h with
    | [], _ => rfl
    | [_], _ => simp
    | [_, _], _ => simp
    | [_, _, _], _ => simp
    | a :: b :: c :: e :: r, h => exact absurd rfl (h a b c e r)
theorem words_get (d : List UInt8) (k : Nat) (h : 4 * k + 4 ≤ d.length) : (words d)[k]? = some (le4 d (4 * k)) := by
  induction k generalizing d with
  | zero =>
    match d, h with
    | a :: b :: c :: e :: r, _ => simp [words, le4, le2]
  | succ k ih =>
    match d, h with
    | a :: b :: c :: e :: r, h =>
      rw [words, List.getElem?_cons_succ, ih r (by simp only [List.length_cons] at h; omega)]
      have q : ∀ j, (a :: b :: c :: e :: r).getD (4 * (k + 1) + j) 0 = r.getD (4 * k + j) 0 := fun j => by
        rw [List.getD_eq_getElem?_getD, List.getD_eq_getElem?_getD, show 4 * (k + 1) + j = (4 * k + j) + 1 + 1 + 1 + 1 by omega]
        simp only [List.getElem?_cons_succ]
      have q0 := q 0
      simp only [Nat.add_zero] at q0
      unfold le4 le2
      rw [q0, q 1, q 2, show 4 * (k + 1) + 2 + 1 = 4 * (k + 1) + 3 from rfl, q 3]
theorem words_lt (d : List UInt8) : ∀ n ∈ words d, n < 4294967296 := by
  fun_induction words d with
  | case1 a b c e r ih =>
    intro n hn
    rcases List.mem_cons.1 hn with rfl | hn
    · have := a.toNat_lt; have := b.toNat_lt; have := c.toNat_lt; have := e.toNat_lt; omega
    · exact ih n hn
  | case2 => intro n hn; simp at hn
theorem b1_of {n : Nat} {a : UInt8} (h : n % 256 = a.toNat) : b1 n = a := by
  apply UInt8.toNat_inj.1
  rw [b1_toNat, h]
theorem bytes_words (d : List UInt8) (h : d.length % 4 = 0) : bytesW (words d) = d := by
  fun_induction words d with
  | case1 a b c e r ih =>
    rw [bytesW_cons, ih (by simp only [List.length_cons] at h; omega)]
    have := a.toNat_lt; have := b.toNat_lt; have := c.toNat_lt; have := e.toNat_lt
    unfold b4
    rw [b1_of (a := a) (by omega), b1_of (a := b) (by omega), b1_of (a := c) (by omega), b1_of (a := e) (by omega)]
    rfl
  | case2 d h' =>
    match d, h, h' with
    | [], _, _ => rfl
    | [_], h, _ => simp at h
    | [_, _], h, _ => simp at h
    | [_, _, _], h, _ => simp at h
    | a :: b :: c :: e :: r, _, h' => exact absurd rfl (h' a b c e r)
theorem words_bytes (l : List Nat) (h : ∀ n ∈ l, n < 4294967296) : words (bytesW l) = l := by
  induction l with
  | nil => rfl
  | cons n l ih =>
    rw [bytesW_cons]
    show words (b1 n :: b1 (n / 256) :: b1 (n / 65536) :: b1 (n / 16777216) :: bytesW l) = _
    rw [words, ih (fun m hm => h m (List.mem_cons_of_mem _ hm)), b1_toNat, b1_toNat, b1_toNat, b1_toNat]
    have := h n List.mem_cons_self
    congr 1; omega

/-! ### which segment is the text -/
def runAt (l : List Seg) (i : Nat) : Bool := match l[i]? with
  | some g => decide (g.flags % 2 = 1)
  | none => false
def lastR (l : List Seg) : Nat → Nat
  | 0 => 0
  | i + 1 => if runAt l i = true then i else lastR l i
def cntR (l : List Seg) : Nat → Nat
  | 0 => 0
  | i + 1 => if runAt l i = true then cntR l i + 1 else cntR l i
theorem runAt_of {l : List Seg} {i : Nat} {g : Seg} (h : l[i]? = some g) : runAt l i = decide (g.flags % 2 = 1) := by unfold runAt; rw [h]
theorem cntR_le (l : List Seg) (i : Nat) : cntR l i ≤ i := by
  induction i with
  | zero => exact Nat.le_refl _
  | succ i ih => rw [cntR]; split <;> omega
theorem lastR_le (l : List Seg) (i : Nat) : lastR l i ≤ i := by
  induction i with
  | zero => exact Nat.le_refl _
  | succ i ih => rw [lastR]; split <;> omega
theorem cnt_none {l : List Seg} {i : Nat} (h : cntR l i = 0) : ∀ j, j < i → runAt l j = false := by
  induction i with
  | zero => intro j hj; omega
  | succ i ih =>
    rw [cntR] at h
    split at h
    · omega
    · rename_i hr
      intro j hj
      by_cases e : j = i
      · subst e; simpa using hr
      · exact ih h j (by omega)
theorem cnt_one {l : List Seg} {i : Nat} (h : cntR l i = 1) : lastR l i < i ∧ runAt l (lastR l i) = true ∧ ∀ j, j < i → runAt l j = true → j = lastR l i := by
  induction i with
  | zero => rw [cntR] at h; omega
  | succ i ih =>
    rw [cntR] at h
    rw [lastR]
    split at h
    · rename_i hr
      rw [if_pos hr]
      have h0 := cnt_none (l := l) (i := i) (by omega)
      refine ⟨by omega, hr, fun j hj hjr => ?_⟩
      by_cases e : j = i
      · exact e
      · rw [h0 j (by omega)] at hjr; cases hjr
    · rename_i hr
      rw [if_neg hr]
      obtain ⟨h1, h2, h3⟩ := ih h
      refine ⟨by omega, h2, fun j hj hjr => ?_⟩
      by_cases e : j = i
      · subst e; exact absurd hjr hr
      · exact h3 j (by omega) hjr
def txt (l : List Seg) : Nat := lastR l l.length
def cnt (l : List Seg) : Nat := cntR l l.length
def ofW (g : Seg) : Bool := decide (g.flags / 2 % 2 = 0 ∧ g.addr.toNat % 4 = 0 ∧ g.data.length % 4 = 0 ∧ 0 < g.data.length ∧ g.size = (g.data.length : Int))
def isText (l : List Seg) : Bool := decide (cnt l = 1) && match l[txt l]? with
  | some g => ofW g
  | none => false
def entryIn (g : Seg) (e : BitVec 32) : Bool := decide (e.toNat % 4 = 0 ∧ g.addr.toNat ≤ e.toNat ∧ e.toNat < g.addr.toNat + g.data.length)
def entered (l : List Seg) (e : BitVec 32) : Bool := match l[txt l]? with
  | some g => entryIn g e
  | none => false
def ofE (x : Prg) (d : Sure := ⟨Classical.propDecidable⟩) : Int :=
  if chk x.segs d ≠ 0 then chk x.segs d else if isText x.segs = true then (if entered x.segs x.entry = true then 0 else 71) else 70
structure Img where
  base : BitVec 32
  entry : BitVec 32
  words : List Nat
  seg : Nat
def noImg : Img := ⟨0, 0, [], 0⟩
def imgAt (x : Prg) : Img := match x.segs[txt x.segs]? with
  | some g => ⟨g.addr, x.entry, words g.data, txt x.segs⟩
  | none => noImg
def imgOf (x : Prg) (d : Sure := ⟨Classical.propDecidable⟩) : Img := if ofE x d = 0 then imgAt x else noImg

/-- What a program with a text is. -/
structure Texted (l : List Seg) (g : Seg) : Prop where
  get : l[txt l]? = some g
  run : g.flags % 2 = 1
  once : ∀ (j : Nat) (h : Seg), l[j]? = some h → h.flags % 2 = 1 → j = txt l
  wr : g.flags / 2 % 2 = 0
  al : g.addr.toNat % 4 = 0
  len : g.data.length % 4 = 0
  pos : 0 < g.data.length
  size : g.size = (g.data.length : Int)
theorem txt_lt {l : List Seg} (h : cnt l = 1) : txt l < l.length := (cnt_one h).1
theorem text_yes {l : List Seg} (h : isText l = true) : ∃ g, Texted l g := by
  unfold isText at h
  rw [Bool.and_eq_true, decide_eq_true_eq] at h
  obtain ⟨h1, h2⟩ := h
  obtain ⟨h3, h4, h5⟩ := cnt_one h1
  have hg : l[txt l]? = some (l[txt l]'h3) := List.getElem?_eq_getElem h3
  refine ⟨l[txt l]'h3, ?_⟩
  rw [hg] at h2
  simp only [ofW, decide_eq_true_eq] at h2
  obtain ⟨a1, a2, a3, a4, a5⟩ := h2
  refine ⟨hg, ?_, fun j k hj hk => ?_, a1, a2, a3, a4, a5⟩
  · have := runAt_of hg
    rw [show lastR l l.length = txt l from rfl, this] at h4
    exact of_decide_eq_true h4
  · refine h5 j (List.getElem?_eq_some_iff.1 hj).1 ?_
    rw [runAt_of hj]; exact decide_eq_true hk
theorem cnt_of {l : List Seg} {k : Nat} {g : Seg} (hk : l[k]? = some g) (hg : g.flags % 2 = 1) (ho : ∀ (j : Nat) (h : Seg), l[j]? = some h → h.flags % 2 = 1 → j = k) : cnt l = 1 ∧ txt l = k := by
  have hl := (List.getElem?_eq_some_iff.1 hk).1
  have no : ∀ j, j ≠ k → runAt l j = false := fun j hj => by
    unfold runAt
    split
    · rename_i h e; exact decide_eq_false fun h' => hj (ho j h e h')
    · rfl
  have yes : runAt l k = true := by rw [runAt_of hk]; exact decide_eq_true hg
  have below : ∀ i, i ≤ k → cntR l i = 0 := fun i hi => by
    induction i with
    | zero => rfl
    | succ i ih => rw [cntR, if_neg (by rw [no i (by omega)]; simp)]; exact ih (by omega)
  have above : ∀ i, k < i → cntR l i = 1 ∧ lastR l i = k := fun i hi => by
    induction i with
    | zero => omega
    | succ i ih =>
      by_cases e : i = k
      · subst e; rw [cntR, lastR, if_pos yes, if_pos yes, below i (by omega)]; exact ⟨rfl, rfl⟩
      · rw [cntR, lastR, if_neg (by rw [no i e]; simp), if_neg (by rw [no i e]; simp)]; exact ih (by omega)
  exact above l.length hl
theorem text_of {l : List Seg} {g : Seg} {k : Nat} (hk : l[k]? = some g) (hg : g.flags % 2 = 1) (ho : ∀ (j : Nat) (h : Seg), l[j]? = some h → h.flags % 2 = 1 → j = k) (h : ofW g = true) : isText l = true ∧ txt l = k := by
  obtain ⟨h1, h2⟩ := cnt_of hk hg ho
  refine ⟨?_, h2⟩
  unfold isText
  rw [h1, h2, hk]
  simpa using h
theorem ofE_among (x : Prg) : ofE x = 0 ∨ ofE x = 2 ∨ ofE x = 62 ∨ ofE x = 63 ∨ ofE x = 70 ∨ ofE x = 71 := by
  unfold ofE
  split
  · rcases chk_among x.segs with h | h | h | h <;> simp [h]
  · split
    · split <;> simp
    · simp
theorem of_zero {x : Prg} (h : ofE x = 0) : chk x.segs = 0 ∧ ∃ g, Texted x.segs g ∧ entryIn g x.entry = true ∧ imgOf x = ⟨g.addr, x.entry, words g.data, txt x.segs⟩ := by
  have hi : imgOf x = imgAt x := by unfold imgOf; rw [if_pos h]
  unfold ofE at h
  split at h
  · rename_i h0; exact absurd h h0
  · rename_i h0
    split at h
    · rename_i h1
      split at h
      · rename_i h2
        obtain ⟨g, hg⟩ := text_yes h1
        refine ⟨Classical.byContradiction h0, g, hg, ?_, ?_⟩
        · unfold entered at h2; rw [hg.get] at h2; exact h2
        · rw [hi]; unfold imgAt; rw [hg.get]
      · cases h
    · cases h
theorem of_not {x : Prg} (h : ofE x ≠ 0) : imgOf x = noImg := by unfold imgOf; rw [if_neg h]
theorem of_chk {x : Prg} (h : chk x.segs ≠ 0) : ofE x = chk x.segs := by unfold ofE; rw [if_pos h]
theorem of_70 {x : Prg} (h : chk x.segs = 0) (h1 : isText x.segs = false) : ofE x = 70 := by unfold ofE; rw [if_neg (by rw [h]; simp), if_neg (by rw [h1]; simp)]
theorem of_71 {x : Prg} {g : Seg} (h : chk x.segs = 0) (h1 : isText x.segs = true) (hg : x.segs[txt x.segs]? = some g) (h2 : entryIn g x.entry = false) : ofE x = 71 := by
  unfold ofE entered; rw [if_neg (by rw [h]; simp), if_pos h1, hg, if_neg (by simp only [h2]; simp)]
theorem of_0 {x : Prg} {g : Seg} (h : chk x.segs = 0) (h1 : isText x.segs = true) (hg : x.segs[txt x.segs]? = some g) (h2 : entryIn g x.entry = true) : ofE x = 0 ∧ imgOf x = ⟨g.addr, x.entry, words g.data, txt x.segs⟩ := by
  have e : ofE x = 0 := by unfold ofE entered; rw [if_neg (by rw [h]; simp), if_pos h1, hg, if_pos h2]
  refine ⟨e, ?_⟩
  unfold imgOf imgAt; rw [if_pos e, hg]

/-! ### the word at an address -/
def Img.ok (i : Img) : Prop := i.base.toNat % 4 = 0 ∧ i.base.toNat + 4 * i.words.length ≤ 4294967296 ∧ i.words.length ≤ 1000000 ∧ ∀ n ∈ i.words, n < 4294967296
def atB (i : Img) (a : BitVec 32) : Bool := decide (a.toNat % 4 = 0 ∧ i.base.toNat ≤ a.toNat ∧ a.toNat < i.base.toNat + 4 * i.words.length)
def atW (i : Img) (a : BitVec 32) : Nat := if atB i a = true then i.words.getD ((a.toNat - i.base.toNat) / 4) 0 else 0
theorem may_of {l : List Seg} (h : chk l = 0) {k : Nat} {g : Seg} (hg : l[k]? = some g) : g.may := (chk_zero h).2.1 g (List.mem_of_getElem? hg)
theorem img_ok {x : Prg} (hd : ∀ g ∈ x.segs, g.data.length ≤ 4000000) : (imgOf x).ok := by
  by_cases h : ofE x = 0
  · obtain ⟨hc, g, hg, _, hi⟩ := of_zero h
    rw [hi]
    have hm := may_of hc hg.get
    have hdd := hd g (List.mem_of_getElem? hg.get)
    refine ⟨hg.al, ?_, ?_, words_lt _⟩
    · have := hm.2.2.2.2.2; have := hg.size; have := hg.len
      show g.addr.toNat + 4 * (words g.data).length ≤ _
      rw [words_len]; omega
    · show (words g.data).length ≤ _
      rw [words_len]; omega
  · rw [of_not h]; exact ⟨by decide, by decide, by decide, fun n hn => by simp [noImg] at hn⟩
theorem at_yes {i : Img} {a : BitVec 32} (h : atB i a = true) : ∃ n, i.words[(a.toNat - i.base.toNat) / 4]? = some n ∧ atW i a = n ∧ (a.toNat - i.base.toNat) / 4 < i.words.length ∧ i.base.toNat ≤ a.toNat ∧ a.toNat % 4 = 0 := by
  have h' := of_decide_eq_true h
  obtain ⟨h1, h2, h3⟩ := h'
  have hlt : (a.toNat - i.base.toNat) / 4 < i.words.length := by omega
  refine ⟨i.words[(a.toNat - i.base.toNat) / 4], List.getElem?_eq_getElem hlt, ?_, hlt, h2, h1⟩
  unfold atW
  rw [if_pos h, List.getD_eq_getElem?_getD, List.getElem?_eq_getElem hlt]; rfl
theorem at_no {i : Img} {a : BitVec 32} (h : atB i a = false) : atW i a = 0 := by unfold atW; rw [if_neg (by rw [h]; simp)]

/-! ### with other words -/
def setD (l : List Seg) (k : Nat) (s : List UInt8) : List Seg := l.modify k fun g => { g with data := s }
theorem setD_get (l : List Seg) (k : Nat) (s : List UInt8) (i : Nat) : (setD l k s)[i]? = if i = k then (l[i]?).map (fun g => { g with data := s }) else l[i]? := by
  unfold setD
  rw [List.getElem?_modify]
  by_cases h : i = k
  · subst h; simp
  · have h' : ¬ k = i := fun e => h e.symm
    simp [h, h']
theorem setD_len (l : List Seg) (k : Nat) (s : List UInt8) : (setD l k s).length = l.length := by unfold setD; exact List.length_modify ..
def wE (x : Prg) (n : Nat) (d : Sure := ⟨Classical.propDecidable⟩) : Int := if ofE x d ≠ 0 then ofE x d else if n = (imgOf x d).words.length then 0 else 1
def putW (x : Prg) (l : List Nat) : Prg := ⟨x.entry, x.flags, setD x.segs (txt x.segs) (bytesW l)⟩
def noPrg : Prg := ⟨0, 0, []⟩
def wV (x : Prg) (l : List Nat) (d : Sure := ⟨Classical.propDecidable⟩) : Prg := if wE x l.length d = 0 then putW x l else noPrg
theorem w_zero {x : Prg} {l : List Nat} (h : ofE x = 0) (hl : l.length = (imgOf x).words.length) : wE x l.length = 0 ∧ wV x l = putW x l := by
  have e : wE x l.length = 0 := by unfold wE; rw [if_neg (by rw [h]; simp), if_pos hl]
  exact ⟨e, by unfold wV; rw [if_pos e]⟩
theorem w_arg {x : Prg} {l : List Nat} (h : ofE x = 0) (hl : l.length ≠ (imgOf x).words.length) : wE x l.length = 1 ∧ wV x l = noPrg := by
  have e : wE x l.length = 1 := by unfold wE; rw [if_neg (by rw [h]; simp), if_neg hl]
  exact ⟨e, by unfold wV; rw [if_neg (by rw [e]; decide)]⟩
theorem w_of {x : Prg} {l : List Nat} (h : ofE x ≠ 0) : wE x l.length = ofE x ∧ wV x l = noPrg := by
  have e : wE x l.length = ofE x := by unfold wE; rw [if_pos h]
  exact ⟨e, by unfold wV; rw [if_neg (by rw [e]; exact h)]⟩

/-! ### alike but for their bytes -/
def shp (g : Seg) : BitVec 32 × Nat × Int × Int := (g.addr, g.data.length, g.size, g.flags)
def Alike (l l' : List Seg) : Prop := ∀ i : Nat, (l[i]?).map shp = (l'[i]?).map shp
theorem Alike.symm {l l' : List Seg} (h : Alike l l') : Alike l' l := fun i => (h i).symm
theorem Alike.get {l l' : List Seg} (h : Alike l l') {i : Nat} {g : Seg} (hg : l[i]? = some g) : ∃ g', l'[i]? = some g' ∧ g'.addr = g.addr ∧ g'.data.length = g.data.length ∧ g'.size = g.size ∧ g'.flags = g.flags := by
  have := h i
  rw [hg] at this
  cases e : l'[i]? with
  | none => rw [e] at this; simp at this
  | some g' => rw [e] at this; simp [shp] at this; exact ⟨g', rfl, this.1.symm, this.2.1.symm, this.2.2.1.symm, this.2.2.2.symm⟩
theorem Alike.len {l l' : List Seg} (h : Alike l l') : l'.length = l.length := by
  have q : ∀ {a b : List Seg}, Alike a b → a.length ≤ b.length := fun {a b} h => by
    by_cases e : a.length = 0
    · omega
    · obtain ⟨g', hg', _⟩ := h.get (i := a.length - 1) (g := a[a.length - 1]'(by omega)) (List.getElem?_eq_getElem (by omega))
      have := (List.getElem?_eq_some_iff.1 hg').1
      omega
  exact Nat.le_antisymm (q h.symm) (q h)
theorem Alike.may {l l' : List Seg} (h : Alike l l') (hm : ∀ g ∈ l, g.may) : ∀ g ∈ l', g.may := fun g hg => by
  obtain ⟨i, hi⟩ := List.getElem?_of_mem hg
  obtain ⟨k, hk, e1, e2, e3, e4⟩ := h.symm.get hi
  have := hm k (List.mem_of_getElem? hk)
  unfold Seg.may at this ⊢
  rw [← e1, ← e2, ← e3, ← e4]; exact this
theorem Alike.meets {l l' : List Seg} (h : Alike l l') (hm : Meets l) : Meets l' := by
  obtain ⟨i, j, g, k, hij, hi, hj, hn⟩ := hm
  obtain ⟨g', hg', a1, _, a3, _⟩ := h.get hi
  obtain ⟨k', hk', b1, _, b3, _⟩ := h.get hj
  refine ⟨i, j, g', k', hij, hg', hk', fun e => hn ?_⟩
  unfold Seg.apart at e ⊢
  rw [← a1, ← a3, ← b1, ← b3]; exact e
theorem Alike.chk0 {l l' : List Seg} (h : Alike l l') (hc : chk l = 0) : chk l' = 0 := by
  obtain ⟨h1, h2, h3⟩ := chk_zero hc
  exact chk_ok (by rw [h.len]; exact h1) (h.may h2) (fun hm => h3 (h.symm.meets hm))
theorem setD_alike {l : List Seg} {k : Nat} {g : Seg} (hg : l[k]? = some g) {s : List UInt8} (hs : s.length = g.data.length) : Alike l (setD l k s) := fun i => by
  rw [setD_get]
  by_cases h : i = k
  · subst h; rw [if_pos rfl, hg]; simp [shp, hs]
  · rw [if_neg h]
theorem put_of {x : Prg} {l : List Nat} (h : ofE x = 0) (hl : l.length = (imgOf x).words.length) (hw : ∀ n ∈ l, n < 4294967296) : ofE (putW x l) = 0 ∧ imgOf (putW x l) = ⟨(imgOf x).base, x.entry, l, txt x.segs⟩ := by
  obtain ⟨hc, g, hg, he, hi⟩ := of_zero h
  rw [hi] at hl ⊢
  have hlen : (bytesW l).length = g.data.length := by
    rw [bytesW_len, hl]; show 4 * (words g.data).length = _
    rw [words_len]; have := hg.len; omega
  have hA := setD_alike hg.get hlen
  have hg' : (putW x l).segs[txt x.segs]? = some { g with data := bytesW l } := by
    show (setD x.segs _ _)[_]? = _
    rw [setD_get, if_pos rfl, hg.get]; rfl
  obtain ⟨t1, t2⟩ := text_of (l := (putW x l).segs) (k := txt x.segs) hg' hg.run (fun j k hj hk => by
    obtain ⟨k', hk', _, _, _, e4⟩ := hA.symm.get hj
    exact hg.once j k' hk' (by rw [e4]; exact hk)) (by
      simp only [ofW, decide_eq_true_eq, hlen]
      exact ⟨hg.wr, hg.al, hg.len, hg.pos, hg.size⟩)
  have := of_0 (x := putW x l) (g := { g with data := bytesW l }) (hA.chk0 hc) t1 (by rw [t2]; exact hg') (by
    have e := of_decide_eq_true he
    simp only [entryIn, decide_eq_true_eq, hlen]
    exact e)
  refine ⟨this.1, ?_⟩
  rw [this.2, t2, words_bytes l hw]; rfl
theorem put_self {x : Prg} (h : ofE x = 0) : putW x (imgOf x).words = x := by
  obtain ⟨_, g, hg, _, hi⟩ := of_zero h
  rw [hi]
  unfold putW
  show Prg.mk x.entry x.flags (setD x.segs (txt x.segs) (bytesW (words g.data))) = x
  rw [bytes_words _ hg.len]
  have : setD x.segs (txt x.segs) g.data = x.segs := by
    apply List.ext_getElem?
    intro i
    rw [setD_get]
    by_cases e : i = txt x.segs
    · subst e; rw [if_pos rfl, hg.get]; rfl
    · rw [if_neg e]
  rw [this]
end El
end Go.Proofs.Ytkfomhllaogplaa
