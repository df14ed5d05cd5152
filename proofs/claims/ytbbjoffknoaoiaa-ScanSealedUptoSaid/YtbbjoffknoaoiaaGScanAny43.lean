/-
  What came in, by the bulk of its datum: how many elements it has, how many letters. By an AI agent.
  Records of a right log, one by one, read whole and up to a fault, as plain lists (for P12.1, P12.2). By an AI agent.
  Records that are read one by one, as plain lists: where each stands, and what stands behind the last one (for P12.3). By an AI agent.
-/
import Derived.Test.YtbbjoffknoaoiaaRows
import Derived.Test.YtbbjoffknoaoiaaGScanAny6
import Derived.Test.YtbbjoffknoaoiaaGScanAny35
import Derived.Test.YtbbjoffknoaoiaaGScanAny24
namespace Go.Proofs.Ytbbjoffknoaoiaa.Upto
open Go.RowKit Go.ChangeShapes Go.WideShapes Go.Deep Go.Proofs.Ytbbjoffknoaoiaa.Ints Go.Proofs.Ytbbjoffknoaoiaa.Mem Go.Proofs.Ytbbjoffknoaoiaa.Trace

section
variable {H : Type} {enc : TypeId × Value → H} {w : World}
theorem one_le (d : DataW H) : 1 ≤ Rows.uptoBulk d := by
  cases d with
  | lit l => cases l <;> simp [Rows.uptoBulk]
  | _ => simp [Rows.uptoBulk]
theorem part_le {d : DataW H} {l : List (DataW H)} {B : Nat} (h : d ∈ l) (hb : Rows.uptoBulkAll l ≤ B) : Rows.uptoBulk d ≤ B := by
  induction l with
  | nil => cases h
  | cons x r ih =>
    simp only [Rows.uptoBulkAll] at hb
    cases List.mem_cons.1 h with
    | inl e => subst e; omega
    | inr e => exact ih e (by omega)
theorem many_le (l : List (DataW H)) : l.length ≤ Rows.uptoBulkAll l := by
  induction l with
  | nil => simp
  | cons x r ih => have := one_le x; simp only [Rows.uptoBulkAll, List.length_cons]; omega
/-- A slice has no more places than its bulk. -/
theorem count_le {t e : TypeId} {fuel len cap B : Nat} {A : Option Addr} {x : DataW H × List MemPlace} (ht : Try.prog.underlying t = some (.slice e))
    (h : DataW.trod enc Try.prog w 0 (fun _ => true) true fuel t [.slice A len cap] = some x) (hb : Rows.uptoBulk x.1 ≤ B) : cap ≤ B := by
  rcases open_slice ht h with ⟨hcs, -⟩ | ⟨a, l', c', m, n, D, Pl, hcs, -, hl, hm, hmm, rfl, hi⟩
  · simp at hcs
    omega
  · simp at hcs
    obtain ⟨rfl, rfl, rfl⟩ := hcs
    have hm' : m = cap := by simpa using hmm
    have h1 := many_le ((List.range len).map D)
    have h2 := many_le ((List.range (m - len)).map fun j => D (len + j))
    simp only [List.length_map, List.length_range] at h1 h2
    simp only [Rows.uptoBulk] at hb
    omega
/-- No string of a list has more letters than the list's bulk. -/
theorem strs_le {fuel len cap B : Nat} {A : Option Addr} {x : DataW H × List MemPlace} (h : DataW.trod enc Try.prog w 0 (fun _ => true) true fuel 31 [.slice A len cap] = some x) (hb : Rows.uptoBulk x.1 ≤ B)
    {l : List (List UInt8)} (hl0 : l.length = len) (hs : Strs w A l) : ∀ s ∈ l, s.length ≤ B := by
  intro s hsm
  obtain ⟨i, hi', rfl⟩ := List.getElem_of_mem hsm
  rcases open_slice Try.underlying31 h with ⟨hcs, -⟩ | ⟨a, l', c', m, n, D, Pl, hcs, -, hl, hm, hmm, rfl, hi⟩
  · simp at hcs
    omega
  · simp at hcs
    obtain ⟨rfl, rfl, rfl⟩ := hcs
    have hm' : m = cap := by simpa using hmm
    have cellsStr : Try.prog.cellsOf 9 = 1 := by kernel_rfl
    obtain ⟨cs', hc, ht⟩ := hi i (by omega)
    rw [cellsStr] at hc
    obtain ⟨-, hcl, hat⟩ := World.cells?_some hc
    obtain ⟨b, off, hA, hcell⟩ := hs (by omega)
    obtain rfl : a = ⟨b, off, none⟩ := by simpa using hA
    have h0 := hat 0 (by omega)
    have hv : cs'[0]? = some (cs'[0]'(by omega)) := List.getElem?_eq_getElem (by omega)
    obtain ⟨nm, c1, c2, w1⟩ := DataW.trod_string Try.underlying9 ht
    have hc1 : cs'[0]? = some (.string nm) := by rw [c1]; rfl
    rw [hc1] at h0
    have e : (((⟨b, off, none⟩ : Addr).add (i * 1)).add 0) = ⟨b, off + i, none⟩ := by simp [Addr.add]
    rw [e] at h0
    have h2 := hcell i _ (List.getElem?_eq_getElem hi')
    rw [h2] at h0
    have h3 : nm = ⟨l[i].toArray⟩ := by simpa [strS] using h0.symm
    have hD : D i = .lit (.string nm.data.toList) := congrArg Prod.fst c2
    have hmem : D i ∈ (List.range len).map D := List.mem_map.2 ⟨i, List.mem_range.2 (by omega), rfl⟩
    have hb2 : Rows.uptoBulkAll ((List.range len).map D) ≤ B := by
      simp only [Rows.uptoBulk] at hb
      omega
    have h4 := part_le hmem hb2
    rw [hD] at h4
    simp only [Rows.uptoBulk] at h4
    have h5 : nm.data.toList.length = l[i].length := by rw [h3]
    omega
theorem sum_le : ∀ (ls : List (DataW H)) (ss : List (List UInt8)), ls.length = ss.length → (∀ (i : Nat) (d : DataW H) (s : List UInt8), ls[i]? = some d → ss[i]? = some s → s.length ≤ Rows.uptoBulk d) → (ss.map List.length).sum ≤ Rows.uptoBulkAll ls := by
  intro ls
  induction ls with
  | nil =>
    intro ss h _
    rw [List.eq_nil_of_length_eq_zero h.symm]
    simp
  | cons d ls ih =>
    intro ss h hh
    cases ss with
    | nil => simp at h
    | cons s ss =>
      have h1 := hh 0 d s rfl rfl
      have h2 := ih ss (by simpa using h) (fun i d' s' hd hs => hh (i + 1) d' s' (by simpa using hd) (by simpa using hs))
      simp only [Rows.uptoBulkAll, List.map_cons, List.sum_cons]
      omega
/-- All strings of a list together have no more letters than the list's bulk. -/
theorem strs_sum {fuel len cap B : Nat} {A : Option Addr} {x : DataW H × List MemPlace} (h : DataW.trod enc Try.prog w 0 (fun _ => true) true fuel 31 [.slice A len cap] = some x) (hb : Rows.uptoBulk x.1 ≤ B)
    {l : List (List UInt8)} (hl0 : l.length = len) (hs : Strs w A l) : (l.map List.length).sum ≤ B := by
  rcases open_slice Try.underlying31 h with ⟨hcs, -⟩ | ⟨a, l', c', m, n, D, Pl, hcs, -, hl, hm, hmm, rfl, hi⟩
  · simp at hcs
    have : l = [] := List.eq_nil_of_length_eq_zero (by omega)
    rw [this]
    simp
  · simp at hcs
    obtain ⟨rfl, rfl, rfl⟩ := hcs
    have hm' : m = cap := by simpa using hmm
    have cellsStr : Try.prog.cellsOf 9 = 1 := by kernel_rfl
    have hb2 : Rows.uptoBulkAll ((List.range len).map D) ≤ B := by
      simp only [Rows.uptoBulk] at hb
      omega
    refine Nat.le_trans (sum_le ((List.range len).map D) l (by simp [hl0]) fun i d s hd hse => ?_) hb2
    have hi' : i < l.length := (List.getElem?_eq_some_iff.1 hse).1
    obtain ⟨cs', hc, ht⟩ := hi i (by omega)
    rw [cellsStr] at hc
    obtain ⟨-, hcl, hat⟩ := World.cells?_some hc
    obtain ⟨b, off, hA, hcell⟩ := hs (by omega)
    obtain rfl : a = ⟨b, off, none⟩ := by simpa using hA
    have h0 := hat 0 (by omega)
    obtain ⟨nm, c1, c2, w1⟩ := DataW.trod_string Try.underlying9 ht
    have hc1 : cs'[0]? = some (.string nm) := by rw [c1]; rfl
    rw [hc1] at h0
    have e : (((⟨b, off, none⟩ : Addr).add (i * 1)).add 0) = ⟨b, off + i, none⟩ := by simp [Addr.add]
    rw [e] at h0
    have h2 := hcell i _ hse
    rw [h2] at h0
    have h3 : nm = ⟨s.toArray⟩ := by simpa [strS] using h0.symm
    have hD : D i = .lit (.string nm.data.toList) := congrArg Prod.fst c2
    have hd2 : D i = d := by
      rw [List.getElem?_map, List.getElem?_range (by omega)] at hd
      simpa using hd
    rw [← hd2, hD]
    simp only [Rows.uptoBulk]
    have h5 : nm.data.toList.length = s.length := by rw [h3]
    omega
theorem thrice_le (l : List (DataW H)) (h : ∀ d ∈ l, 3 ≤ Rows.uptoBulk d) : 3 * l.length ≤ Rows.uptoBulkAll l := by
  induction l with
  | nil => simp
  | cons x r ih =>
    have h1 := h x (List.mem_cons_self ..)
    have h2 := ih fun d hd => h d (List.mem_cons_of_mem _ hd)
    simp only [Rows.uptoBulkAll, List.length_cons]
    omega
set_option maxRecDepth 100000 in
/-- An event's bulk is three at least. -/
theorem event_three {fuel : Nat} {cs : List Value} {x : DataW H × List MemPlace} (h : DataW.trod enc Try.prog w 0 (fun _ => true) true fuel 38 cs = some x) : 3 ≤ Rows.uptoBulk x.1 := by
  obtain ⟨ys, m, -, hx, -, hlen, -⟩ := DataW.trod_struct structEvent h
  have hsz2 : (Try.prog.fieldsOf 38).size = 2 := by
    have := congrArg List.length fieldsEvent
    simpa using this
  have hd : x.1 = .agg (ys.map (·.1)) := congrArg Prod.fst hx
  have h1 := many_le (ys.map (·.1))
  rw [List.length_map] at h1
  rw [hd]
  simp only [Rows.uptoBulk]
  omega
/-- A slice of events has no more places than a third of its bulk. -/
theorem events_le {fuel len cap B : Nat} {A : Option Addr} {x : DataW H × List MemPlace} (h : DataW.trod enc Try.prog w 0 (fun _ => true) true fuel 32 [.slice A len cap] = some x) (hb : Rows.uptoBulk x.1 ≤ B) : 3 * cap ≤ B := by
  rcases open_slice Try.underlying32 h with ⟨hcs, -⟩ | ⟨a, l', c', m, n, D, Pl, hcs, -, hl, hm, hmm, rfl, hi⟩
  · simp at hcs
    omega
  · simp at hcs
    obtain ⟨rfl, rfl, rfl⟩ := hcs
    have hm' : m = cap := by simpa using hmm
    have h3 : ∀ i, i < m → 3 ≤ Rows.uptoBulk (D i) := fun i hi' => by
      obtain ⟨cs', -, ht⟩ := hi i hi'
      exact event_three ht
    have h1 := thrice_le ((List.range len).map D) (fun d hd => by
      obtain ⟨i, hi', rfl⟩ := List.mem_map.1 hd
      exact h3 i (by have := List.mem_range.1 hi'; omega))
    have h2 := thrice_le ((List.range (m - len)).map fun j => D (len + j)) (fun d hd => by
      obtain ⟨i, hi', rfl⟩ := List.mem_map.1 hd
      exact h3 (len + i) (by have := List.mem_range.1 hi'; omega))
    simp only [List.length_map, List.length_range] at h1 h2
    simp only [Rows.uptoBulk] at hb
    omega
set_option maxRecDepth 100000 in
theorem trace_le {d : DataW H} {p : List MemPlace} {NA EA : Option Addr} {nn nc ne ec B : Nat} (h : DataW.Trod enc Try.prog w 0 (fun _ => true) true 34 (.agg #[.slice NA nn nc, .slice EA ne ec]) d p) (hb : Rows.uptoBulk d ≤ B) :
    nc ≤ B ∧ 3 * ec ≤ B := by
  obtain ⟨fuel, hf⟩ := h
  obtain ⟨ys, m, -, hx, -, hlen, hf⟩ := DataW.trod_struct structTrace hf
  have hsz2 : (Try.prog.fieldsOf 34).size = 2 := by
    have := congrArg List.length fieldsTrace
    simpa using this
  obtain ⟨f0, g0, t0, o0⟩ := field_at fieldsTrace (i := 0) rfl
  obtain ⟨f1, g1, t1, o1⟩ := field_at fieldsTrace (i := 1) rfl
  obtain ⟨y0, e0⟩ : ∃ y, ys[0]? = some y := ⟨_, List.getElem?_eq_getElem (by omega)⟩
  obtain ⟨y1, e1⟩ : ∃ y, ys[1]? = some y := ⟨_, List.getElem?_eq_getElem (by omega)⟩
  have k0 := hf 0 f0 g0
  have k1 := hf 1 f1 g1
  rw [t0, o0, e0, cellsNames] at k0
  rw [t1, o1, e1, cellsEvents] at k1
  have hd : d = .agg (ys.map (·.1)) := congrArg Prod.fst hx
  rw [hd] at hb
  simp only [Rows.uptoBulk] at hb
  have hb2 : Rows.uptoBulkAll (ys.map (·.1)) ≤ B := by omega
  have m0 : y0.1 ∈ ys.map (·.1) := List.mem_map.2 ⟨y0, List.mem_of_getElem? e0, rfl⟩
  have m1 : y1.1 ∈ ys.map (·.1) := List.mem_map.2 ⟨y1, List.mem_of_getElem? e1, rfl⟩
  exact ⟨count_le Try.underlying31 k0 (part_le m0 hb2), events_le k1 (part_le m1 hb2)⟩
end
end Go.Proofs.Ytbbjoffknoaoiaa.Upto

namespace Go.Proofs.Ytbbjoffknoaoiaa.Scan
open Go.Proofs.Ytbbjoffknoaoiaa.Ints Go.Proofs.Ytbbjoffknoaoiaa.SumMath Go.Proofs.Ytbbjoffknoaoiaa.SumWalks Go.Proofs.Ytbbjoffknoaoiaa.Trace Go.Proofs.Ytbbjoffknoaoiaa.Record Go.Proofs.Ytbbjoffknoaoiaa.Log

/-- Where the i-th record of a log stands. -/
def placeL (t : Tr) (i : Nat) : Nat := (headL t.names).length + ((t.events.take i).flatMap recR).length
theorem place_zero (t : Tr) : placeL t 0 = (headL t.names).length := by simp [placeL]
theorem rest_whole (b : List Int) (p : Nat) : restB b b.length (p : Int) = b.drop p := by
  unfold restB
  rw [List.take_of_length_le (Nat.le_refl _), Int.toNat_natCast]
  rcases Nat.le_total p b.length with h | h
  · rw [Nat.min_eq_left h]
  · rw [Nat.min_eq_right h, List.drop_of_length_le (Nat.le_refl _), List.drop_of_length_le h]
/-- The i-th record of a log. -/
theorem place_rec {t : Tr} (h : mayT t = true) (ht : ∀ e ∈ t.events, 0 ≤ e.time ∧ e.time ≤ 18446744073709551615) {i : Nat} (hi : i < t.events.length) :
    errR ((encL t).drop (placeL t i)) (propsR (t.names.length : Int)) = 0 ∧ evR ((encL t).drop (placeL t i)) = t.events.getD i noEv ∧ placeL t (i + 1) = placeL t i + (lenR ((encL t).drop (placeL t i)) + 6) ∧ placeL t i + 14 ≤ placeL t (i + 1) ∧ placeL t (i + 1) ≤ (encL t).length := by
  obtain ⟨h1, h2⟩ := (mayT_iff t).1 h
  have h64 := ((namesOk_iff _).1 h1).1
  have he : encL t = headL t.names ++ t.events.flatMap recR := by unfold encL; rw [if_pos h]
  have hsp : t.events = t.events.take i ++ t.events.getD i noEv :: t.events.drop (i + 1) := by
    have e : t.events.getD i noEv = t.events[i] := by simp [List.getD, hi]
    rw [e]
    simp
  obtain ⟨ev, hev⟩ : ∃ ev, t.events.getD i noEv = ev := ⟨_, rfl⟩
  have hmem : ev ∈ t.events := by rw [← hev]; simp [List.getD, hi]
  rw [hev] at hsp ⊢
  have hfl : t.events.flatMap recR = (t.events.take i).flatMap recR ++ (recR ev ++ (t.events.drop (i + 1)).flatMap recR) := by
    conv => lhs; rw [hsp]
    rw [List.flatMap_append, List.flatMap_cons]
  have hd : (encL t).drop (placeL t i) = recR ev ++ (t.events.drop (i + 1)).flatMap recR := by
    rw [he, hfl]
    unfold placeL
    rw [← List.append_assoc, ← List.length_append, List.drop_left]
  have hids := evs_ids h2 ev hmem
  obtain ⟨t0, t1⟩ := ht ev hmem
  obtain ⟨k1, k2, k3⟩ := rec_get (p := (t.names.length : Int)) ⟨by omega, by omega⟩ hids t0 t1 ((t.events.drop (i + 1)).flatMap recR)
  have htk : t.events.take (i + 1) = t.events.take i ++ [ev] := by
    rw [List.take_add_one, List.getElem?_eq_getElem hi]
    have e : t.events.getD i noEv = t.events[i] := by simp [List.getD, hi]
    rw [← hev, e]
    rfl
  have hpl : placeL t (i + 1) = placeL t i + (recR ev).length := by
    unfold placeL
    rw [htk, List.flatMap_append, List.length_append, List.flatMap_cons, List.flatMap_nil, List.append_nil]
    omega
  have hrl := rec_len ev
  rw [hd]
  refine ⟨k1, k2, ?_, ?_, ?_⟩
  · rw [hpl, k3]
    omega
  · omega
  · rw [hpl, he, hfl]
    unfold placeL
    simp only [List.length_append]
    omega
/-- The i-th record, read whole. -/
theorem scan_whole {t : Tr} (h : mayT t = true) (ht : ∀ e ∈ t.events, 0 ≤ e.time ∧ e.time ≤ 18446744073709551615) {i : Nat} (hi : i < t.events.length) :
    scanE (encL t) (encL t).length (placeL t i : Nat) (t.names.length : Int) = 0 ∧ scanV (encL t) (encL t).length (placeL t i : Nat) (t.names.length : Int) = t.events.getD i noEv ∧ scanN (encL t) (encL t).length (placeL t i : Nat) (t.names.length : Int) = placeL t (i + 1) := by
  obtain ⟨k1, k2, k3, k4, k5⟩ := place_rec h ht hi
  have hg := get_ok k1
  have hE : scanE (encL t) (encL t).length (placeL t i : Nat) (t.names.length : Int) = 0 := by
    unfold scanE
    rw [if_neg (by omega), if_neg (by omega), if_neg (fun e => absurd e.1 (Nat.lt_irrefl _)), rest_whole]
    exact k1
  refine ⟨hE, ?_, ?_⟩
  · unfold scanV
    rw [if_pos hE, rest_whole, hg.1, k2]
  · unfold scanN
    rw [if_pos hE, rest_whole, hg.2.1, Int.toNat_natCast, k3]
/-- The i-th record, read up to a fault. -/
theorem scan_cut {t : Tr} (h : mayT t = true) (ht : ∀ e ∈ t.events, 0 ≤ e.time ∧ e.time ≤ 18446744073709551615) {i k : Nat} (hi : i < t.events.length) (hk : k < (encL t).length) :
    (placeL t (i + 1) ≤ k → scanE (encL t) k (placeL t i : Nat) (t.names.length : Int) = 0 ∧ scanV (encL t) k (placeL t i : Nat) (t.names.length : Int) = t.events.getD i noEv) ∧
    (¬ placeL t (i + 1) ≤ k → scanE (encL t) k (placeL t i : Nat) (t.names.length : Int) = 10) := by
  obtain ⟨k1, k2, k3, k4, k5⟩ := place_rec h ht hi
  have h64 := ((namesOk_iff _).1 ((mayT_iff t).1 h).1).1
  have hg := get_ok k1
  obtain ⟨r1, r2⟩ := rec_cut (b := encL t) (fun z hz => enc_bytes t z hz) (p := placeL t i) (f := k) (props := (t.names.length : Int)) ⟨by omega, by omega⟩ k1 (by omega) (by omega)
  rw [← k3] at r1 r2
  refine ⟨fun hc => ?_, fun hc => ?_⟩
  · rw [if_pos hc] at r1
    have hE : scanE (encL t) k (placeL t i : Nat) (t.names.length : Int) = 0 := by
      unfold scanE
      rw [if_neg (by omega), if_neg (by omega), r1, if_neg (fun e => by rcases e.2 with e | e <;> cases e)]
    refine ⟨hE, ?_⟩
    unfold scanV
    rw [if_pos hE, (r2 hc).1, hg.1, k2]
  · rw [if_neg hc] at r1
    unfold scanE
    rw [if_neg (by omega), if_neg (by omega), if_pos ⟨hk, by rw [r1]; split; exact Or.inl rfl; exact Or.inr rfl⟩]
end Go.Proofs.Ytbbjoffknoaoiaa.Scan

namespace Go.Proofs.Ytbbjoffknoaoiaa.Log
open Go.Proofs.Ytbbjoffknoaoiaa.Ints Go.Proofs.Ytbbjoffknoaoiaa.SumMath Go.Proofs.Ytbbjoffknoaoiaa.SumWalks Go.Proofs.Ytbbjoffknoaoiaa.Trace Go.Proofs.Ytbbjoffknoaoiaa.Record

/-- Where the i-th record behind a place stands. -/
def placeD (b : List Int) (p : Nat) : Nat → Nat
  | 0 => p
  | i + 1 => placeD b p i + (lenR (b.drop (placeD b p i)) + 6)
theorem place_shift (b : List Int) (p : Nat) : ∀ i, placeD b (p + (lenR (b.drop p) + 6)) i = placeD b p (i + 1) := by
  intro i
  induction i with
  | zero => rfl
  | succ i ih => rw [placeD, ih]; rfl
/-- The time ahead of the i-th record. -/
def timeD (last : Int) (l : List Ev) : Nat → Int
  | 0 => last
  | i + 1 => (l.getD i noEv).time
/-- What recsD tells, record by record. -/
theorem recs_walk (b : List Int) (props : Int) : ∀ (f p : Nat) (last : Int) (es : List Ev), b.length < f + p → ∃ l, (recsD b props f p last es).1 = es ++ l ∧
    (∀ i, i < l.length → errR (b.drop (placeD b p i)) (propsR props) = 0 ∧ evR (b.drop (placeD b p i)) = l.getD i noEv ∧ timeD last l i ≤ (l.getD i noEv).time ∧ placeD b p (i + 1) ≤ b.length ∧ placeD b p i + 14 ≤ placeD b p (i + 1)) ∧
    (((recsD b props f p last es).2 = errR (b.drop (placeD b p l.length)) (propsR props) ∧ (recsD b props f p last es).2 ≠ 0) ∨
      ((recsD b props f p last es).2 = 8 ∧ errR (b.drop (placeD b p l.length)) (propsR props) = 0 ∧ (evR (b.drop (placeD b p l.length))).time < timeD last l l.length)) := by
  intro f
  induction f with
  | zero =>
    intro p last es hp
    have hd : b.drop p = [] := List.drop_of_length_le (by omega)
    refine ⟨[], by simp [recsD], fun i hi => by simp at hi, Or.inl ⟨?_, ?_⟩⟩
    · show (13 : Nat) = errR (b.drop p) (propsR props)
      rw [hd]
      rfl
    · show (13 : Nat) ≠ 0
      decide
  | succ f ih =>
    intro p last es hp
    by_cases h1 : errR (b.drop p) (propsR props) = 0
    · by_cases h2 : (evR (b.drop p)).time < last
      · rw [recsD_time f h1 h2]
        exact ⟨[], by simp, fun i hi => by simp at hi, Or.inr ⟨rfl, h1, h2⟩⟩
      · rw [recsD_next f h1 h2]
        obtain ⟨g1, g2, g3, g4⟩ := get_ok h1
        have hl : (b.drop p).length = b.length - p := List.length_drop
        obtain ⟨l, k1, k2, k3⟩ := ih (p + (lenR (b.drop p) + 6)) (evR (b.drop p)).time (es ++ [evR (b.drop p)]) (by omega)
        refine ⟨evR (b.drop p) :: l, by rw [k1]; simp, fun i hi => ?_, ?_⟩
        · rcases i with _ | i
          · exact ⟨h1, rfl, by show last ≤ _; simp; omega, by show p + (lenR (b.drop p) + 6) ≤ b.length; omega, by show p + 14 ≤ p + (lenR (b.drop p) + 6); omega⟩
          · have hi2 : i < l.length := by simpa using hi
            obtain ⟨j1, j2, j3, j4, j5⟩ := k2 i hi2
            simp only [place_shift] at j1 j2 j4 j5
            have e : (evR (b.drop p) :: l).getD (i + 1) noEv = l.getD i noEv := by simp
            refine ⟨j1, by rw [e]; exact j2, ?_, j4, j5⟩
            rw [e]
            rcases i with _ | i
            · exact j3
            · exact j3
        · rw [List.length_cons]
          rw [place_shift] at k3
          have e : timeD (evR (b.drop p)).time l l.length = timeD last (evR (b.drop p) :: l) (l.length + 1) := by
            rcases hll : l.length with _ | m
            · rfl
            · simp [timeD]
          rw [e] at k3
          exact k3
    · rw [recsD_err f rfl h1]
      exact ⟨[], by simp, fun i hi => by simp at hi, Or.inl ⟨rfl, h1⟩⟩
end Go.Proofs.Ytbbjoffknoaoiaa.Log
