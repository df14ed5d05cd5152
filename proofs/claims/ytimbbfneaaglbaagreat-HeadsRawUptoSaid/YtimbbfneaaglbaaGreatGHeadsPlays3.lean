/-
  Right, landed and by the reference, at any bytes: do they end by their sum? By an AI agent.
  Records as plain lists of bytes: what Put writes, what Get tells. By an AI agent.
  Lists of strings that came in. By an AI agent.
-/
import Derived.Test.YtimbbfneaaglbaaGreatGHeadsPlays2
import Derived.Test.YtimbbfneaaglbaaGreatGHeadsPlays1
namespace Go.Proofs.YtimbbfneaaglbaaGreat.SumWalks
open Go.RowKit Go.Proofs.YtimbbfneaaglbaaGreat.SumMath Go.Proofs.YtimbbfneaaglbaaGreat.Ints

/-- The bytes end by the sum of what is ahead of it. -/
def sealedB (zs : List Int) : Bool := decide (4 ≤ zs.length ∧ zs.drop (zs.length - 4) = be4 (adn 1 (zs.take (zs.length - 4))))
def openN (zs : List Int) : Nat := if sealedB zs then zs.length - 4 else 0
def openL (zs : List Int) : List Int := if sealedB zs then zs.take (zs.length - 4) else []
/-- What Right and its reference answer alike. -/
def AnsR (w : World) (zs : List Int) (e : Ending) (w' : World) : Prop :=
  ∃ A c, e = .returned (.tuple #[.slice A (openN zs) c, .bool (sealedB zs)]) ∧ Rd .u8 w' A (openN zs) (openL zs) ∧ openN zs ≤ c ∧ c ≤ maxLen ∧ Below w.heap.size w w'

theorem right_land (A : Option Addr) (n c : Nat) (zs : List Int) (w0 : World) (hn : n ≤ c) (hcm : c ≤ maxLen) (hs : n ≤ 140737488351232) (h0 : Rd .u8 w0 A n zs) :
    ∀ w, Rd .u8 w A n zs → Calls Tryz.prog 114 #[.slice A n c] w (AnsR w zs) := by
  have hl := h0.len
  have q63 : maxLen = 9223372036854775807 := rfl
  by_cases hn4 : n < 4
  · have hse : sealedB zs = false := decide_eq_false (by omega)
    have no : ∀ w e w', (e = .returned (.tuple #[.slice none 0 0, .bool false]) ∧ Below w.heap.size w w') → AnsR w zs e w' := fun w e w' ⟨he, hb⟩ => by
      unfold AnsR openN openL
      rw [hse]
      exact ⟨none, 0, he, Rd.nil _ _ _, Nat.le_refl _, by decide, hb⟩
    exact fun w _ => (rightShort A n c w hn4).mono fun e w' h => no w e w' h
  · obtain ⟨b, off, rfl, _⟩ := h0.cell (by omega)
    obtain ⟨m, rfl⟩ : ∃ m, n = m + 4 := ⟨n - 4, by omega⟩
    obtain ⟨x0, x1, x2, x3, hx⟩ := four h0.len (by omega)
    rw [show m + 4 - 4 = m by omega] at hx
    have ht := h0.drop (m := m) (by omega)
    rw [hx, show m + 4 - m = 4 by omega] at ht
    have b1 := ht.u8 1 (by omega)
    have b2 := ht.u8 2 (by omega)
    have b3 := ht.u8 3 (by omega)
    simp at b1 b2 b3
    have hback := be4_back (x0 := x0) (s := adn 1 (zs.take m)) b1 b2 b3
    have hse : sealedB zs = decide ([x0, x1, x2, x3] = be4 (adn 1 (zs.take m))) := by
      unfold sealedB
      rw [hl, show m + 4 - 4 = m by omega, hx]
      apply decide_eq_decide.2
      exact ⟨fun h => h.2, fun h => ⟨by omega, h⟩⟩
    by_cases hq : [x0, x1, x2, x3] = be4 (adn 1 (zs.take m))
    · have hse2 : sealedB zs = true := by rw [hse]; exact decide_eq_true hq
      have yes : ∀ w e w', Opened w m (zs.take m) e w' → AnsR w zs e w' := fun w e w' ⟨A, c, he, hr, hc, hb⟩ => by
        unfold AnsR openN openL
        rw [hse2, hl]
        rw [if_pos rfl, if_pos rfl, show m + 4 - 4 = m by omega]
        exact ⟨A, c, he, hr, hc.1, hc.2, hb⟩
      have hr1 : (x0 * 16777216 + x1 * 65536 + x2 * 256 + x3 != adn 1 (zs.take m)) = false := by rw [bne_eq_false_iff_eq]; exact hback.2 hq
      exact fun w hw => (rightLong b off m c zs x0 x1 x2 x3 w hn hcm (by omega) hw hx false hr1).mono fun e w' h => yes w e w' h
    · have hse2 : sealedB zs = false := by rw [hse]; exact decide_eq_false hq
      have no : ∀ w e w', (e = .returned (.tuple #[.slice none 0 0, .bool false]) ∧ Below w.heap.size w w') → AnsR w zs e w' := fun w e w' ⟨he, hb⟩ => by
        unfold AnsR openN openL
        rw [hse2]
        exact ⟨none, 0, he, Rd.nil _ _ _, Nat.le_refl _, by decide, hb⟩
      have hr1 : (x0 * 16777216 + x1 * 65536 + x2 * 256 + x3 != adn 1 (zs.take m)) = true := by rw [bne_iff_ne]; exact fun h => hq (hback.1 h)
      exact fun w hw => (rightLong b off m c zs x0 x1 x2 x3 w hn hcm (by omega) hw hx true hr1).mono fun e w' h => no w e w' h
theorem rights_both (A : Option Addr) (n c : Nat) (zs : List Int) (w0 : World) (hn : n ≤ c) (hcm : c ≤ maxLen) (hs : n ≤ 140737488351232) (h0 : Rd .u8 w0 A n zs) :
    (∀ w, Rd .u8 w A n zs → Calls Tryz.prog 114 #[.slice A n c] w (AnsR w zs)) ∧
      (∀ w, Rd .u8 w A n zs → Calls Tryz.prog 95 #[.slice A n c] w (AnsR w zs)) := by
  have hl := h0.len
  have q63 : maxLen = 9223372036854775807 := rfl
  by_cases hn4 : n < 4
  · have hse : sealedB zs = false := decide_eq_false (by omega)
    have no : ∀ w e w', (e = .returned (.tuple #[.slice none 0 0, .bool false]) ∧ Below w.heap.size w w') → AnsR w zs e w' := fun w e w' ⟨he, hb⟩ => by
      unfold AnsR openN openL
      rw [hse]
      exact ⟨none, 0, he, Rd.nil _ _ _, Nat.le_refl _, by decide, hb⟩
    exact ⟨fun w _ => (rightShort A n c w hn4).mono fun e w' h => no w e w' h, fun w _ => (refRightShort A n c w hn4).mono fun e w' h => no w e w' h⟩
  · obtain ⟨b, off, rfl, _⟩ := h0.cell (by omega)
    obtain ⟨m, rfl⟩ : ∃ m, n = m + 4 := ⟨n - 4, by omega⟩
    obtain ⟨x0, x1, x2, x3, hx⟩ := four h0.len (by omega)
    rw [show m + 4 - 4 = m by omega] at hx
    have ht := h0.drop (m := m) (by omega)
    rw [hx, show m + 4 - m = 4 by omega] at ht
    have b1 := ht.u8 1 (by omega)
    have b2 := ht.u8 2 (by omega)
    have b3 := ht.u8 3 (by omega)
    simp at b1 b2 b3
    have hback := be4_back (x0 := x0) (s := adn 1 (zs.take m)) b1 b2 b3
    have hall : ∀ z ∈ zs.take m ++ be4 (adn 1 (zs.take m)), (Lit.int .u8 z).wf = true := fun z hz =>
      (List.mem_append.1 hz).elim ((h0.take (m := m) (by omega)).all z) (be4_wf (adn_bd 1 _) z)
    have hsame := str_same hall h0.all
    have hsplit : (zs.take m ++ be4 (adn 1 (zs.take m)) = zs) ↔ [x0, x1, x2, x3] = be4 (adn 1 (zs.take m)) := by
      constructor
      · intro h
        have h2 : zs.take m ++ be4 (adn 1 (zs.take m)) = zs.take m ++ zs.drop m := by rw [List.take_append_drop]; exact h
        rw [← hx]
        exact (List.append_cancel_left h2).symm
      · intro h
        rw [← h, ← hx, List.take_append_drop]
    have hse : sealedB zs = decide ([x0, x1, x2, x3] = be4 (adn 1 (zs.take m))) := by
      unfold sealedB
      rw [hl, show m + 4 - 4 = m by omega, hx]
      apply decide_eq_decide.2
      exact ⟨fun h => h.2, fun h => ⟨by omega, h⟩⟩
    by_cases hq : [x0, x1, x2, x3] = be4 (adn 1 (zs.take m))
    · have hse2 : sealedB zs = true := by rw [hse]; exact decide_eq_true hq
      have yes : ∀ w e w', Opened w m (zs.take m) e w' → AnsR w zs e w' := fun w e w' ⟨A, c, he, hr, hc, hb⟩ => by
        unfold AnsR openN openL
        rw [hse2, hl]
        rw [if_pos rfl, if_pos rfl, show m + 4 - 4 = m by omega]
        exact ⟨A, c, he, hr, hc.1, hc.2, hb⟩
      have hr1 : (x0 * 16777216 + x1 * 65536 + x2 * 256 + x3 != adn 1 (zs.take m)) = false := by rw [bne_eq_false_iff_eq]; exact hback.2 hq
      have hr2 : ((strOfNums (zs.take m ++ be4 (adn 1 (zs.take m)))).toList == (strOfNums zs).toList) = !false := by rw [hsame]; simp [hsplit, hq]
      exact ⟨fun w hw => (rightLong b off m c zs x0 x1 x2 x3 w hn hcm (by omega) hw hx false hr1).mono fun e w' h => yes w e w' h,
        fun w hw => (refRightLong b off m c zs w hn hcm (by omega) hw false hr2).mono fun e w' h => yes w e w' h⟩
    · have hse2 : sealedB zs = false := by rw [hse]; exact decide_eq_false hq
      have no : ∀ w e w', (e = .returned (.tuple #[.slice none 0 0, .bool false]) ∧ Below w.heap.size w w') → AnsR w zs e w' := fun w e w' ⟨he, hb⟩ => by
        unfold AnsR openN openL
        rw [hse2]
        exact ⟨none, 0, he, Rd.nil _ _ _, Nat.le_refl _, by decide, hb⟩
      have hr1 : (x0 * 16777216 + x1 * 65536 + x2 * 256 + x3 != adn 1 (zs.take m)) = true := by rw [bne_iff_ne]; exact fun h => hq (hback.1 h)
      have hr2 : ((strOfNums (zs.take m ++ be4 (adn 1 (zs.take m)))).toList == (strOfNums zs).toList) = !true := by rw [hsame]; simp [hsplit, hq]
      exact ⟨fun w hw => (rightLong b off m c zs x0 x1 x2 x3 w hn hcm (by omega) hw hx true hr1).mono fun e w' h => no w e w' h,
        fun w hw => (refRightLong b off m c zs w hn hcm (by omega) hw true hr2).mono fun e w' h => no w e w' h⟩
end Go.Proofs.YtimbbfneaaglbaaGreat.SumWalks

namespace Go.Proofs.YtimbbfneaaglbaaGreat.Record
open Go.Proofs.YtimbbfneaaglbaaGreat.Ints Go.Proofs.YtimbbfneaaglbaaGreat.SumMath Go.Proofs.YtimbbfneaaglbaaGreat.SumWalks Go.Proofs.YtimbbfneaaglbaaGreat.Trace

def be2 (x : Int) : List Int := [x / 256 % 256, x % 256]
def be8 (x : Int) : List Int :=
  [x / 72057594037927936 % 256, x / 281474976710656 % 256, x / 1099511627776 % 256, x / 4294967296 % 256, x / 16777216 % 256, x / 65536 % 256, x / 256 % 256, x % 256]
/-- A number by its bytes, the high one first. -/
def numR (l : List Int) : Int := l.foldl (fun x c => x * 256 + c) 0
/-- A record up to its sum. -/
def bodyR (e : Ev) : List Int := be2 (8 + (e.ids.length : Int)) ++ be8 e.time ++ e.ids
def recR (e : Ev) : List Int := bodyR e ++ be4 (adn 1 (bodyR e))
def putR (b : List Int) (e : Ev) : List Int := if idsOk e.ids 64 then b ++ recR e else b
def propsR (p : Int) : Int := min (max p 0) 64
/-- The number L at a record's beginning. -/
def lenR (b : List Int) : Nat := (numR (b.take 2)).toNat
def evR (b : List Int) : Ev := ⟨numR ((b.drop 2).take 8), (b.drop 10).take (lenR b - 8)⟩
def sizeE (b : List Int) (p : Int) : Nat :=
  if b.length = 0 then 13 else if b.length = 1 then 7
  else if (lenR b : Int) < 8 ∨ (lenR b : Int) > 8 + p then 2
  else if b.length < lenR b + 6 then 7 else 0
/-- What is wrong with a record; 0: nothing is. -/
def errR (b : List Int) (p : Int) : Nat :=
  if sizeE b p ≠ 0 then sizeE b p
  else if sealedB (b.take (lenR b + 6)) = false then 6
  else if idsOk (evR b).ids p = false then 9 else 0
def getE (b : List Int) (p : Int) : Ev := if errR b (propsR p) = 0 then evR b else noEv
def getN (b : List Int) (p : Int) : Nat := if errR b (propsR p) = 0 then lenR b + 6 else 0

theorem be2_bytes (x : Int) : ∀ z ∈ be2 x, 0 ≤ z ∧ z ≤ 255 := by intro z hz; simp [be2] at hz; omega
theorem be8_bytes (x : Int) : ∀ z ∈ be8 x, 0 ≤ z ∧ z ≤ 255 := by
  intro z hz
  simp only [be8, List.mem_cons, List.not_mem_nil, or_false] at hz
  rcases hz with h | h | h | h | h | h | h | h <;> (rw [h]; constructor <;> omega)
theorem be4_bytes {s : Int} (h : 0 ≤ s ∧ s ≤ 4294967295) : ∀ z ∈ be4 s, 0 ≤ z ∧ z ≤ 255 := by intro z hz; simp [be4] at hz; omega
theorem num_snoc (l : List Int) (z : Int) : numR (l ++ [z]) = numR l * 256 + z := by simp [numR]
theorem num_bd : ∀ (k : Nat) (l : List Int), l.length ≤ k → (∀ z ∈ l, 0 ≤ z ∧ z ≤ 255) → 0 ≤ numR l ∧ numR l < ((256 ^ k : Nat) : Int) := by
  intro k
  induction k with
  | zero =>
    intro l hl _
    have : l = [] := List.eq_nil_of_length_eq_zero (by omega)
    subst this
    decide
  | succ k ih =>
    intro l hl hb
    rcases List.eq_nil_or_concat l with rfl | ⟨l', z, rfl⟩
    · refine ⟨by decide, ?_⟩
      have : 0 < 256 ^ (k + 1) := Nat.pow_pos (by decide)
      show (0 : Int) < _
      omega
    · simp only [List.concat_eq_append] at hl hb ⊢
      rw [List.length_append, List.length_singleton] at hl
      have h1 := ih l' (by omega) (fun y hy => hb y (List.mem_append_left _ hy))
      have h2 := hb z (List.mem_append_right _ (List.mem_singleton.2 rfl))
      rw [num_snoc]
      have e : ((256 ^ (k + 1) : Nat) : Int) = ((256 ^ k : Nat) : Int) * 256 := by rw [Nat.pow_succ, Int.natCast_mul]; rfl
      rw [e]
      omega
theorem num_be2 {x : Int} (h0 : 0 ≤ x) (h1 : x < 65536) : numR (be2 x) = x := by simp [numR, be2]; omega
theorem num_be8 {x : Int} (h0 : 0 ≤ x) (h1 : x ≤ 18446744073709551615) : numR (be8 x) = x := by
  simp only [numR, be8, List.foldl_cons, List.foldl_nil]
  omega
theorem num2 {a b : Int} (ha : 0 ≤ a ∧ a ≤ 255) (hb : 0 ≤ b ∧ b ≤ 255) : be2 (numR [a, b]) = [a, b] := by
  simp only [numR, be2, List.foldl_cons, List.foldl_nil, List.cons.injEq, and_true]
  constructor <;> omega
theorem num8 {a b c d e f g h : Int} (ha : 0 ≤ a ∧ a ≤ 255) (hb : 0 ≤ b ∧ b ≤ 255) (hc : 0 ≤ c ∧ c ≤ 255) (hd : 0 ≤ d ∧ d ≤ 255) (he : 0 ≤ e ∧ e ≤ 255) (hf : 0 ≤ f ∧ f ≤ 255) (hg : 0 ≤ g ∧ g ≤ 255) (hh : 0 ≤ h ∧ h ≤ 255) :
    be8 (numR [a, b, c, d, e, f, g, h]) = [a, b, c, d, e, f, g, h] := by
  simp only [numR, be8, List.foldl_cons, List.foldl_nil, List.cons.injEq, and_true]
  refine ⟨?_, ?_, ?_, ?_, ?_, ?_, ?_, ?_⟩ <;> omega
theorem ids_bytes {l : List Int} {p : Int} (h : idsOk l p = true) : ∀ z ∈ l, 0 ≤ z ∧ z < p := by
  intro z hz
  obtain ⟨i, hi, rfl⟩ := List.getElem_of_mem hz
  have := (idsOk_iff l p).1 h i hi
  have e : l.getD i 0 = l[i] := by simp [List.getD, hi]
  unfold IdGood at this
  rw [e] at this
  exact ⟨this.1, this.2.1⟩
/-- Ids rise: the i-th is i at least. -/
theorem ids_rise {l : List Int} {p : Int} (h : idsOk l p = true) : ∀ i, i < l.length → (i : Int) ≤ l.getD i 0 := by
  intro i
  induction i with
  | zero => intro hi; exact ((idsOk_iff l p).1 h 0 hi).1
  | succ i ih =>
    intro hi
    have h1 := ih (by omega)
    have h2 := ((idsOk_iff l p).1 h (i + 1) hi).2.2 (by omega)
    rw [show i + 1 - 1 = i by omega] at h2
    omega
theorem ids_count {l : List Int} {p : Int} (h : idsOk l p = true) : (l.length : Int) ≤ max p 0 := by
  by_cases h0 : l.length = 0
  · omega
  · have h1 := ids_rise h (l.length - 1) (by omega)
    have h2 := ((idsOk_iff l p).1 h (l.length - 1) (by omega)).2.1
    omega
theorem props_bd (p : Int) : 0 ≤ propsR p ∧ propsR p ≤ 64 := by unfold propsR; omega
theorem body_len (e : Ev) : (bodyR e).length = 10 + e.ids.length := by simp [bodyR, be2, be8]; omega
theorem rec_len (e : Ev) : (recR e).length = 14 + e.ids.length := by unfold recR; rw [List.length_append, body_len]; simp [be4]; omega
theorem body_bytes {e : Ev} (h : idsOk e.ids 64 = true) : ∀ z ∈ bodyR e, 0 ≤ z ∧ z ≤ 255 := by
  intro z hz
  rcases List.mem_append.1 hz with h1 | h1
  · rcases List.mem_append.1 h1 with h2 | h2
    · exact be2_bytes _ z h2
    · exact be8_bytes _ z h2
  · have := ids_bytes h z h1
    omega
theorem rec_bytes {e : Ev} (h : idsOk e.ids 64 = true) : ∀ z ∈ recR e, 0 ≤ z ∧ z ≤ 255 := by
  intro z hz
  rcases List.mem_append.1 hz with h1 | h1
  · exact body_bytes h z h1
  · exact be4_bytes (adn_bd 1 _) z h1
theorem u8_all {l : List Int} (h : ∀ z ∈ l, 0 ≤ z ∧ z ≤ 255) : ∀ z ∈ l, (Lit.int .u8 z).wf = true := fun z hz => u8_wf (h z hz)
theorem all_u8 {l : List Int} (h : ∀ z ∈ l, (Lit.int .u8 z).wf = true) : ∀ z ∈ l, 0 ≤ z ∧ z ≤ 255 := fun z hz => wf_u8 (h z hz)
end Go.Proofs.YtimbbfneaaglbaaGreat.Record

namespace Go.Proofs.YtimbbfneaaglbaaGreat.Mem
open Go.RowKit Go.ChangeShapes Go.WideShapes Go.Deep Go.Proofs.YtimbbfneaaglbaaGreat.Ints

section
variable {H : Type} {enc : TypeId × Value → H} {w : World}
set_option maxRecDepth 100000 in
/-- A list of strings that came in. -/
theorem strs_trod {fuel len cap : Nat} {A : Option Addr} {x : DataW H × List MemPlace} (h : DataW.trod enc Tryz.prog w 0 (fun _ => true) true fuel 30 [.slice A len cap] = some x) :
    ∃ l : List (List UInt8), l.length = len ∧ Strs w A l ∧ (∀ s ∈ l, s.length ≤ maxLen) ∧ len ≤ cap ∧ cap ≤ maxLen := by
  rcases open_slice Tryz.underlying30 h with ⟨hcs, -⟩ | ⟨a, l', c', m, n, D, Pl, hcs, -, hl, hm, hmm, -, hi⟩
  · simp at hcs
    obtain ⟨rfl, rfl, rfl⟩ := hcs
    exact ⟨[], rfl, Strs.nil _ _, fun s hs => by simp at hs, Nat.le_refl _, by decide⟩
  · simp at hcs
    obtain ⟨rfl, rfl, rfl⟩ := hcs
    have hm' : m = cap := by simpa using hmm
    have cellsStr : Tryz.prog.cellsOf 9 = 1 := by kernel_rfl
    have hone : ∀ i, i < len → ∃ s : List UInt8, ∃ b off, a = ⟨b, off, none⟩ ∧ w.cell? ⟨b, off + i, none⟩ = some (strS s) ∧ s.length ≤ maxLen := fun i hi' => by
      obtain ⟨cs', hc, ht⟩ := hi i (by omega)
      rw [cellsStr] at hc
      obtain ⟨-, hcl, hat⟩ := World.cells?_some hc
      obtain ⟨b, off, spot⟩ := a
      have h0 := hat 0 (by omega)
      have hv : cs'[0]? = some (cs'[0]'(by omega)) := List.getElem?_eq_getElem (by omega)
      obtain ⟨nm, c1, -, w1⟩ := DataW.trod_string Tryz.underlying9 ht
      rw [hv] at h0
      have hc0 : cs'[0]'(by omega) = .string nm := by
        have h1 : cs'[0]? = some (.string nm) := by rw [c1]; rfl
        rw [hv] at h1
        exact Option.some.inj h1
      rw [hc0] at h0
      have e : (((⟨b, off, spot⟩ : Addr).add (i * 1)).add 0) = (⟨b, off, spot⟩ : Addr).add i := by unfold Addr.add; split <;> split <;> simp_all
      rw [e] at h0
      obtain ⟨cs0, hc0', -⟩ := hi 0 (by omega)
      rw [cellsStr] at hc0'
      obtain ⟨-, hcl0, hat0⟩ := World.cells?_some hc0'
      have hz := hat0 0 (by omega)
      have hv0 : cs0[0]? = some (cs0[0]'(by omega)) := List.getElem?_eq_getElem (by omega)
      rw [hv0, add_add] at hz
      have hspot : spot = none := by simpa [Addr.add] using World.cell?_spot hz
      subst hspot
      refine ⟨nm.data.toList, b, off, rfl, ?_, by rw [Array.length_toList]; exact w1⟩
      rw [← str_eta, ← h0]
      congr 1
      unfold Addr.add
      split <;> simp_all
    refine ⟨(List.range len).map fun i => if h : i < len then Classical.choose (hone i h) else [], by simp, fun h0 => ?_, fun s hs => ?_, hl, hm⟩
    · simp only [List.length_map, List.length_range] at h0
      obtain ⟨-, b, off, rfl, -⟩ := hone 0 h0
      refine ⟨b, off, rfl, fun j n hn => ?_⟩
      have hj : j < len := by
        have := (List.getElem?_eq_some_iff.1 hn).1
        simpa using this
      simp only [List.getElem?_map, List.getElem?_range hj, Option.map_some, Option.some.injEq, dif_pos hj] at hn
      subst hn
      obtain ⟨b', off', e, hn, -⟩ := Classical.choose_spec (hone j hj)
      injection e with e1 e2
      subst e1; subst e2
      exact hn
    · obtain ⟨i, hi', rfl⟩ := List.mem_map.1 hs
      have hj : i < len := by simpa using hi'
      rw [dif_pos hj]
      obtain ⟨b', off', -, -, hn⟩ := Classical.choose_spec (hone i hj)
      exact hn
theorem strs_of {len cap : Nat} {A : Option Addr} {d : DataW H} {p : List MemPlace} (h : DataW.Trod enc Tryz.prog w 0 (fun _ => true) true 30 (.slice A len cap) d p) :
    ∃ l : List (List UInt8), l.length = len ∧ Strs w A l ∧ (∀ s ∈ l, s.length ≤ maxLen) ∧ len ≤ cap ∧ cap ≤ maxLen := by
  obtain ⟨fuel, hf⟩ := h
  exact strs_trod hf
end
end Go.Proofs.YtimbbfneaaglbaaGreat.Mem
