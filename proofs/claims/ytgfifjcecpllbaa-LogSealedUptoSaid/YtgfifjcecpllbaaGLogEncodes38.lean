/-
  The walk of the landed Decode (package log). By an AI agent.
  What came in, by the bulk of its datum: how many elements it has, how many letters. By an AI agent.
  The walk of the law LogDecodes (stage 10). By an AI agent.
-/
import Derived.Test.YtgfifjcecpllbaaGLogEncodes37
import Derived.Test.YtgfifjcecpllbaaGLogEncodes22
import Derived.Test.YtgfifjcecpllbaaRows
import Derived.Test.YtgfifjcecpllbaaGLogEncodes6
import Derived.Test.YtgfifjcecpllbaaGLogEncodes24
namespace Go.Proofs.Ytgfifjcecpllbaa.Log
open Go.RowKit Go.Proofs.Ytgfifjcecpllbaa.Ints Go.Proofs.Ytgfifjcecpllbaa.Mem Go.Proofs.Ytgfifjcecpllbaa.SumMath Go.Proofs.Ytgfifjcecpllbaa.SumWalks Go.Proofs.Ytgfifjcecpllbaa.Trace Go.Proofs.Ytgfifjcecpllbaa.Record

set_option maxHeartbeats 4000000 in
set_option maxRecDepth 100000 in
theorem landDecode (A : Option Addr) (n c : Nat) (zs : List Int) (w : World) (hnc : n ≤ c) (hc : c ≤ maxLen) (hn : n ≤ 58000000) (h : Rd .u8 w A n zs) :
    Calls Try.prog 19 #[.slice A n c] w (GotDec w zs) := by
  have q63 : maxLen = 9223372036854775807 := rfl
  have b0 := Blk.new w #[.slice none 0 0, .slice none 0 0] 25 [.slice none 0 0, .slice none 0 0] rfl
  have hal := (Below.refl _ w).alloc (Nat.le_refl _) (.cells #[.slice none 0 0, .slice none 0 0] 25)
  obtain ⟨w0, hw0⟩ : ∃ w0, w.alloc (.cells #[.slice none 0 0, .slice none 0 0] 25) = w0 := ⟨_, rfl⟩
  rw [hw0] at b0 hal
  have FH := landHead A n c zs w0 hnc hc hn (h.below hal)
  unfold GotHead at FH
  have hs0 : w0.heap.size = w.heap.size + 1 := by rw [← hw0]; simp
  have hlen := h.len
  have hmiss := head_miss (b := zs)
  have hplace := head_place (b := zs) (miss := 5) (by decide)
  have hnsz := head_names (b := zs) (miss := 5) (by decide)
  obtain ⟨ns, hns⟩ : ∃ ns, (headD zs 5).1 = ns := ⟨_, rfl⟩
  obtain ⟨p0, hp0⟩ : ∃ p0, (headD zs 5).2.1 = p0 := ⟨_, rfl⟩
  obtain ⟨e0, he0⟩ : ∃ e0, (headD zs 5).2.2 = e0 := ⟨_, rfl⟩
  rw [hns, hp0, he0] at FH
  rw [hp0, he0] at hplace
  rw [hns] at hnsz
  rw [he0] at hmiss
  obtain ⟨m, hm⟩ : ∃ m, ns.length = m := ⟨_, rfl⟩
  rw [hm] at FH hnsz
  have HH := Lib.hid FH
  have HB0 := Lib.hid b0
  have HAL := Lib.hid hal
  have HM := Lib.hid hm
  by_cases hE : e0 = 0
  rotate_left
  · have h5 := hmiss hE
    have HT := Lib.hid (show decT zs = noTr by unfold decT recordsD; rw [he0, if_pos hE])
    have HDE := Lib.hid (show decE zs = e0 by
      unfold decE recordsD
      rw [he0, if_pos hE]
      show (if e0 = 13 then 0 else e0) = e0
      rw [← he0, h5]
      rfl)
    have he1 : ((e0 : Int) == 0) = false := by simp; omega
    clear FH b0 hal hns hp0 he0 h hmiss hplace h5 hm hlen
    go_enter Try.func19, Try.ntmps19
    go_wp2_with fail
    refine HH.out.mono ?_
    rintro e w1 ⟨A1, c1, rfl, -, hB1⟩
    have b1 := HB0.out.later hB1
    have r0 := b1.cell 0 rfl
    have r1 := b1.cell 1 rfl
    have q0 := b1.fz 0 rfl
    have q1 := b1.fz 1 rfl
    have z := b1.set 0 (.slice none 0 0) (by simp)
    have z0 := z.cell 0 rfl
    have z1 := (z.set 1 (.slice none 0 0) (by simp)).cell 1 rfl
    have HB1 := Lib.hid (HAL.out.trans (hB1.mono HAL.out.size))
    clear b1 z hB1
    go_wp2
    refine bodyPost_ret (v := .tuple #[.agg #[.slice none 0 0, .slice none 0 0], .int .i64 0, .int .i64 (e0 : Nat)]) (by simp [results, Try.results19, go_sem, z0, z1]) rfl ?_
    unfold GotDec
    rw [HT.out, HDE.out]
    exact ⟨none, 0, none, 0, rfl, TrOk.none _ _, (HB1.out.setCell (Nat.le_refl _) _).setCell (Nat.le_refl _) _⟩
  subst hE
  obtain ⟨hp9, hpn⟩ := hplace rfl
  rw [hlen] at hpn
  obtain ⟨R, hR⟩ : ∃ R, recsD (zs.drop p0) (m : Int) (n + 1) 0 0 [] = R := ⟨_, rfl⟩
  have hrec : recordsD zs = (⟨ns, R.1⟩, R.2) := by
    unfold recordsD
    rw [he0, if_neg (fun h => h rfl), hns, hp0, hlen, hm]
    have h7 : recsD zs (m : Int) (n + 1) p0 0 [] = R := (recsD_from zs (m : Int) p0 (n + 1) 0 0 []).trans hR
    rw [h7]
  have HT := Lib.hid (show decT zs = ⟨ns, R.1⟩ by unfold decT; rw [hrec])
  have HDE := Lib.hid (show decE zs = okE R.2 by unfold decE; rw [hrec]; rfl)
  have hsl0 := fun W => slice_from (P := Try.prog) 29 (by kernel_rfl) 1 (by kernel_rfl) A n c p0 hpn W
  have hrd := rd_from h hnc hpn (by omega)
  obtain ⟨A7, hA7⟩ : ∃ A7, fromAddr A c p0 1 = A7 := ⟨_, rfl⟩
  rw [hA7] at hrd
  have hsl : ∀ W, (Instr.slice 29 (.slice A n c) (some (.int .i64 (p0 : Int))) none none).run Try.prog W = .ok (.slice A7 (n - p0) (c - p0)) W := by rw [← hA7]; exact hsl0
  clear hsl0
  have HR := Lib.hid hrd
  have FR := fun W (hb : Below w.heap.size w W) => landRecords A7 (n - p0) (c - p0) (zs.drop p0) (m : Int) (n + 1) W (by omega) (by omega) (by omega) (by omega) (hrd.below hb)
  rw [hR] at FR
  have HF := Lib.hid FR
  have HNS := Lib.hid hnsz.2
  clear FR FH b0 hal hns hp0 he0 h hmiss hplace hm hlen hR hrec hA7 hrd hnsz
  go_enter Try.func19, Try.ntmps19
  go_wp2_with fail
  refine HH.out.mono ?_
  rintro e w1 ⟨NA, nc, rfl, hown1, hB1⟩
  obtain ⟨-, hstr, hncc, hncm⟩ := strs_own hown1
  have HNA := Lib.hid (show ∀ a, NA = some a → w.heap.size < a.block from fun a e => by
    obtain ⟨A', c', e1, -, -, -, h5⟩ := own_slice hown1
    injection e1 with e1
    subst e1
    have := (h5 a e).1
    omega)
  have HB1 := Lib.hid (HB0.out.later hB1)
  have HBE := Lib.hid (HAL.out.trans (hB1.mono HAL.out.size))
  have HS1 := Lib.hid hstr
  clear hown1 hB1 hstr HH HB0 HAL
  go_wp2_with fail
  refine (HF.out w1 HBE.out).mono ?_
  rintro e w2 ⟨EA, ec, rfl, hev, hec1, hec2, hB2⟩
  obtain ⟨ne, hne⟩ : ∃ ne, R.1.length = ne := ⟨_, rfl⟩
  have HNE := Lib.hid hne
  have hlt : w.heap.size < w1.heap.size := HB1.out.1
  have b2 := HB1.out.later hB2
  have r0 := b2.cell 0 rfl
  have r1 := b2.cell 1 rfl
  have q0 := b2.fz 0 rfl
  have q1 := b2.fz 1 rfl
  have z := b2.set 0 (.slice NA m nc) (by simp)
  have z0 := z.cell 0 rfl
  have z1 := (z.set 1 (.slice EA ne ec) (by simp)).cell 1 rfl
  have HO := Lib.hid (show TrOk (fun b => w.heap.size < b) w2 NA m nc EA ne ec ⟨ns, R.1⟩ from ⟨HM.out, hne, HS1.out.below hB2, (fun s hs => by have := HNS.out s hs; omega), hev.mono (fun b _ hb => by have : w1.heap.size ≤ b := hb; omega), ⟨by omega, hncm⟩, ⟨by omega, hec2⟩⟩)
  have HB2 := Lib.hid (HBE.out.trans (hB2.mono HBE.out.size))
  rw [hne]
  clear b2 z hev hB2 hne HS1 HB1
  go_wp2
  refine bodyPost_ret (v := .tuple #[.agg #[.slice NA m nc, .slice EA ne ec], .int .i64 (ne : Nat), .int .i64 (okE R.2 : Nat)]) (by simp [results, Try.results19, go_sem, z0, z1]) rfl ?_
  unfold GotDec
  rw [HT.out, HDE.out]
  show ∃ NA nc EA ec, _ = Ending.returned (.tuple #[.agg #[.slice NA ns.length nc, .slice EA R.1.length ec], .int .i64 (R.1.length : Nat), .int .i64 (okE R.2 : Nat)]) ∧ TrOk Any _ NA ns.length nc EA R.1.length ec ⟨ns, R.1⟩ ∧ _
  rw [HM.out, HNE.out]
  exact ⟨NA, nc, EA, ec, rfl, tr_set HO.out HNA.out _ _, (HB2.out.setCell (Nat.le_refl _) _).setCell (Nat.le_refl _) _⟩
end Go.Proofs.Ytgfifjcecpllbaa.Log

namespace Go.Proofs.Ytgfifjcecpllbaa.Upto
open Go.RowKit Go.ChangeShapes Go.WideShapes Go.Deep Go.Proofs.Ytgfifjcecpllbaa.Ints Go.Proofs.Ytgfifjcecpllbaa.Mem Go.Proofs.Ytgfifjcecpllbaa.Trace

section
variable {H : Type} {enc : TypeId × Value → H} {w : World}
theorem one_le (d : DataW H) : 1 ≤ Rows.uptoBulk d := by
  cases d with
  | lit l => cases l <;> simp [Rows.uptoBulk]
  | _ => simp [Rows.uptoBulk]
theorem part_le {d : DataW H} {l : List (DataW H)} {B : Nat} (h : d ∈ l) (hb : Rows.uptoBulkAll l ≤ B) : Rows.uptoBulk d ≤ B := by
  induction l with
  | nil => cases h
  | cons x r ih =>
    simp only [Rows.uptoBulkAll] at hb
    cases List.mem_cons.1 h with
    | inl e => subst e; omega
    | inr e => exact ih e (by omega)
theorem many_le (l : List (DataW H)) : l.length ≤ Rows.uptoBulkAll l := by
  induction l with
  | nil => simp
  | cons x r ih => have := one_le x; simp only [Rows.uptoBulkAll, List.length_cons]; omega
/-- A slice has no more places than its bulk. -/
theorem count_le {t e : TypeId} {fuel len cap B : Nat} {A : Option Addr} {x : DataW H × List MemPlace} (ht : Try.prog.underlying t = some (.slice e))
    (h : DataW.trod enc Try.prog w 0 (fun _ => true) true fuel t [.slice A len cap] = some x) (hb : Rows.uptoBulk x.1 ≤ B) : cap ≤ B := by
  rcases open_slice ht h with ⟨hcs, -⟩ | ⟨a, l', c', m, n, D, Pl, hcs, -, hl, hm, hmm, rfl, hi⟩
  · simp at hcs
    omega
  · simp at hcs
    obtain ⟨rfl, rfl, rfl⟩ := hcs
    have hm' : m = cap := by simpa using hmm
    have h1 := many_le ((List.range len).map D)
    have h2 := many_le ((List.range (m - len)).map fun j => D (len + j))
    simp only [List.length_map, List.length_range] at h1 h2
    simp only [Rows.uptoBulk] at hb
    omega
/-- No string of a list has more letters than the list's bulk. -/
theorem strs_le {fuel len cap B : Nat} {A : Option Addr} {x : DataW H × List MemPlace} (h : DataW.trod enc Try.prog w 0 (fun _ => true) true fuel 22 [.slice A len cap] = some x) (hb : Rows.uptoBulk x.1 ≤ B)
    {l : List (List UInt8)} (hl0 : l.length = len) (hs : Strs w A l) : ∀ s ∈ l, s.length ≤ B := by
  intro s hsm
  obtain ⟨i, hi', rfl⟩ := List.getElem_of_mem hsm
  rcases open_slice Try.underlying22 h with ⟨hcs, -⟩ | ⟨a, l', c', m, n, D, Pl, hcs, -, hl, hm, hmm, rfl, hi⟩
  · simp at hcs
    omega
  · simp at hcs
    obtain ⟨rfl, rfl, rfl⟩ := hcs
    have hm' : m = cap := by simpa using hmm
    have cellsStr : Try.prog.cellsOf 9 = 1 := by kernel_rfl
    obtain ⟨cs', hc, ht⟩ := hi i (by omega)
    rw [cellsStr] at hc
    obtain ⟨-, hcl, hat⟩ := World.cells?_some hc
    obtain ⟨b, off, hA, hcell⟩ := hs (by omega)
    obtain rfl : a = ⟨b, off, none⟩ := by simpa using hA
    have h0 := hat 0 (by omega)
    have hv : cs'[0]? = some (cs'[0]'(by omega)) := List.getElem?_eq_getElem (by omega)
    obtain ⟨nm, c1, c2, w1⟩ := DataW.trod_string Try.underlying9 ht
    have hc1 : cs'[0]? = some (.string nm) := by rw [c1]; rfl
    rw [hc1] at h0
    have e : (((⟨b, off, none⟩ : Addr).add (i * 1)).add 0) = ⟨b, off + i, none⟩ := by simp [Addr.add]
    rw [e] at h0
    have h2 := hcell i _ (List.getElem?_eq_getElem hi')
    rw [h2] at h0
    have h3 : nm = ⟨l[i].toArray⟩ := by simpa [strS] using h0.symm
    have hD : D i = .lit (.string nm.data.toList) := congrArg Prod.fst c2
    have hmem : D i ∈ (List.range len).map D := List.mem_map.2 ⟨i, List.mem_range.2 (by omega), rfl⟩
    have hb2 : Rows.uptoBulkAll ((List.range len).map D) ≤ B := by
      simp only [Rows.uptoBulk] at hb
      omega
    have h4 := part_le hmem hb2
    rw [hD] at h4
    simp only [Rows.uptoBulk] at h4
    have h5 : nm.data.toList.length = l[i].length := by rw [h3]
    omega
theorem sum_le : ∀ (ls : List (DataW H)) (ss : List (List UInt8)), ls.length = ss.length → (∀ (i : Nat) (d : DataW H) (s : List UInt8), ls[i]? = some d → ss[i]? = some s → s.length ≤ Rows.uptoBulk d) → (ss.map List.length).sum ≤ Rows.uptoBulkAll ls := by
  intro ls
  induction ls with
  | nil =>
    intro ss h _
    rw [List.eq_nil_of_length_eq_zero h.symm]
    simp
  | cons d ls ih =>
    intro ss h hh
    cases ss with
    | nil => simp at h
    | cons s ss =>
      have h1 := hh 0 d s rfl rfl
      have h2 := ih ss (by simpa using h) (fun i d' s' hd hs => hh (i + 1) d' s' (by simpa using hd) (by simpa using hs))
      simp only [Rows.uptoBulkAll, List.map_cons, List.sum_cons]
      omega
/-- All strings of a list together have no more letters than the list's bulk. -/
theorem strs_sum {fuel len cap B : Nat} {A : Option Addr} {x : DataW H × List MemPlace} (h : DataW.trod enc Try.prog w 0 (fun _ => true) true fuel 22 [.slice A len cap] = some x) (hb : Rows.uptoBulk x.1 ≤ B)
    {l : List (List UInt8)} (hl0 : l.length = len) (hs : Strs w A l) : (l.map List.length).sum ≤ B := by
  rcases open_slice Try.underlying22 h with ⟨hcs, -⟩ | ⟨a, l', c', m, n, D, Pl, hcs, -, hl, hm, hmm, rfl, hi⟩
  · simp at hcs
    have : l = [] := List.eq_nil_of_length_eq_zero (by omega)
    rw [this]
    simp
  · simp at hcs
    obtain ⟨rfl, rfl, rfl⟩ := hcs
    have hm' : m = cap := by simpa using hmm
    have cellsStr : Try.prog.cellsOf 9 = 1 := by kernel_rfl
    have hb2 : Rows.uptoBulkAll ((List.range len).map D) ≤ B := by
      simp only [Rows.uptoBulk] at hb
      omega
    refine Nat.le_trans (sum_le ((List.range len).map D) l (by simp [hl0]) fun i d s hd hse => ?_) hb2
    have hi' : i < l.length := (List.getElem?_eq_some_iff.1 hse).1
    obtain ⟨cs', hc, ht⟩ := hi i (by omega)
    rw [cellsStr] at hc
    obtain ⟨-, hcl, hat⟩ := World.cells?_some hc
    obtain ⟨b, off, hA, hcell⟩ := hs (by omega)
    obtain rfl : a = ⟨b, off, none⟩ := by simpa using hA
    have h0 := hat 0 (by omega)
    obtain ⟨nm, c1, c2, w1⟩ := DataW.trod_string Try.underlying9 ht
    have hc1 : cs'[0]? = some (.string nm) := by rw [c1]; rfl
    rw [hc1] at h0
    have e : (((⟨b, off, none⟩ : Addr).add (i * 1)).add 0) = ⟨b, off + i, none⟩ := by simp [Addr.add]
    rw [e] at h0
    have h2 := hcell i _ hse
    rw [h2] at h0
    have h3 : nm = ⟨s.toArray⟩ := by simpa [strS] using h0.symm
    have hD : D i = .lit (.string nm.data.toList) := congrArg Prod.fst c2
    have hd2 : D i = d := by
      rw [List.getElem?_map, List.getElem?_range (by omega)] at hd
      simpa using hd
    rw [← hd2, hD]
    simp only [Rows.uptoBulk]
    have h5 : nm.data.toList.length = s.length := by rw [h3]
    omega
theorem thrice_le (l : List (DataW H)) (h : ∀ d ∈ l, 3 ≤ Rows.uptoBulk d) : 3 * l.length ≤ Rows.uptoBulkAll l := by
  induction l with
  | nil => simp
  | cons x r ih =>
    have h1 := h x (List.mem_cons_self ..)
    have h2 := ih fun d hd => h d (List.mem_cons_of_mem _ hd)
    simp only [Rows.uptoBulkAll, List.length_cons]
    omega
set_option maxRecDepth 100000 in
/-- An event's bulk is three at least. -/
theorem event_three {fuel : Nat} {cs : List Value} {x : DataW H × List MemPlace} (h : DataW.trod enc Try.prog w 0 (fun _ => true) true fuel 39 cs = some x) : 3 ≤ Rows.uptoBulk x.1 := by
  obtain ⟨ys, m, -, hx, -, hlen, -⟩ := DataW.trod_struct structEvent h
  have hsz2 : (Try.prog.fieldsOf 39).size = 2 := by
    have := congrArg List.length fieldsEvent
    simpa using this
  have hd : x.1 = .agg (ys.map (·.1)) := congrArg Prod.fst hx
  have h1 := many_le (ys.map (·.1))
  rw [List.length_map] at h1
  rw [hd]
  simp only [Rows.uptoBulk]
  omega
/-- A slice of events has no more places than a third of its bulk. -/
theorem events_le {fuel len cap B : Nat} {A : Option Addr} {x : DataW H × List MemPlace} (h : DataW.trod enc Try.prog w 0 (fun _ => true) true fuel 23 [.slice A len cap] = some x) (hb : Rows.uptoBulk x.1 ≤ B) : 3 * cap ≤ B := by
  rcases open_slice Try.underlying23 h with ⟨hcs, -⟩ | ⟨a, l', c', m, n, D, Pl, hcs, -, hl, hm, hmm, rfl, hi⟩
  · simp at hcs
    omega
  · simp at hcs
    obtain ⟨rfl, rfl, rfl⟩ := hcs
    have hm' : m = cap := by simpa using hmm
    have h3 : ∀ i, i < m → 3 ≤ Rows.uptoBulk (D i) := fun i hi' => by
      obtain ⟨cs', -, ht⟩ := hi i hi'
      exact event_three ht
    have h1 := thrice_le ((List.range len).map D) (fun d hd => by
      obtain ⟨i, hi', rfl⟩ := List.mem_map.1 hd
      exact h3 i (by have := List.mem_range.1 hi'; omega))
    have h2 := thrice_le ((List.range (m - len)).map fun j => D (len + j)) (fun d hd => by
      obtain ⟨i, hi', rfl⟩ := List.mem_map.1 hd
      exact h3 (len + i) (by have := List.mem_range.1 hi'; omega))
    simp only [List.length_map, List.length_range] at h1 h2
    simp only [Rows.uptoBulk] at hb
    omega
set_option maxRecDepth 100000 in
theorem trace_le {d : DataW H} {p : List MemPlace} {NA EA : Option Addr} {nn nc ne ec B : Nat} (h : DataW.Trod enc Try.prog w 0 (fun _ => true) true 25 (.agg #[.slice NA nn nc, .slice EA ne ec]) d p) (hb : Rows.uptoBulk d ≤ B) :
    nc ≤ B ∧ 3 * ec ≤ B := by
  obtain ⟨fuel, hf⟩ := h
  obtain ⟨ys, m, -, hx, -, hlen, hf⟩ := DataW.trod_struct structTrace hf
  have hsz2 : (Try.prog.fieldsOf 25).size = 2 := by
    have := congrArg List.length fieldsTrace
    simpa using this
  obtain ⟨f0, g0, t0, o0⟩ := field_at fieldsTrace (i := 0) rfl
  obtain ⟨f1, g1, t1, o1⟩ := field_at fieldsTrace (i := 1) rfl
  obtain ⟨y0, e0⟩ : ∃ y, ys[0]? = some y := ⟨_, List.getElem?_eq_getElem (by omega)⟩
  obtain ⟨y1, e1⟩ : ∃ y, ys[1]? = some y := ⟨_, List.getElem?_eq_getElem (by omega)⟩
  have k0 := hf 0 f0 g0
  have k1 := hf 1 f1 g1
  rw [t0, o0, e0, cellsNames] at k0
  rw [t1, o1, e1, cellsEvents] at k1
  have hd : d = .agg (ys.map (·.1)) := congrArg Prod.fst hx
  rw [hd] at hb
  simp only [Rows.uptoBulk] at hb
  have hb2 : Rows.uptoBulkAll (ys.map (·.1)) ≤ B := by omega
  have m0 : y0.1 ∈ ys.map (·.1) := List.mem_map.2 ⟨y0, List.mem_of_getElem? e0, rfl⟩
  have m1 : y1.1 ∈ ys.map (·.1) := List.mem_map.2 ⟨y1, List.mem_of_getElem? e1, rfl⟩
  exact ⟨count_le Try.underlying22 k0 (part_le m0 hb2), events_le k1 (part_le m1 hb2)⟩
end
end Go.Proofs.Ytgfifjcecpllbaa.Upto

namespace Go.Proofs.Ytgfifjcecpllbaa.Log
open Go.RowKit Go.Proofs.Ytgfifjcecpllbaa.Ints Go.Proofs.Ytgfifjcecpllbaa.Mem Go.Proofs.Ytgfifjcecpllbaa.SumMath Go.Proofs.Ytgfifjcecpllbaa.SumWalks Go.Proofs.Ytgfifjcecpllbaa.Trace Go.Proofs.Ytgfifjcecpllbaa.Record

set_option maxHeartbeats 4000000 in
set_option maxRecDepth 100000 in
theorem lawDecodes (LE : ∀ (NA : Option Addr) (nn nc : Nat) (EA : Option Addr) (ne ec : Nat) (t : Tr) (w : World), TrOk Any w NA nn nc EA ne ec t → ne ≤ 1048576 → Calls Try.prog 12 #[.agg #[.slice NA nn nc, .slice EA ne ec]] w (GotBytes w (encL t)))
    (LD : ∀ (A : Option Addr) (n c : Nat) (zs : List Int) (w : World), n ≤ c → c ≤ maxLen → n ≤ 58000000 → Rd .u8 w A n zs → Calls Try.prog 19 #[.slice A n c] w (GotDec w zs))
    (LH : ∀ (A : Option Addr) (n c : Nat) (zs : List Int) (w : World), n ≤ c → c ≤ maxLen → n ≤ 58000000 → Rd .u8 w A n zs → Calls Try.prog 20 #[.slice A n c] w (GotHead w zs 5))
    (A : Option Addr) (n c : Nat) (zs : List Int) (w : World) (hnc : n ≤ c) (hc : c ≤ maxLen) (hn : n ≤ 58000000) (h : Rd .u8 w A n zs) :
    Calls Try.prog 4 #[.slice A n c] w fun e w' => e = .returned (.bool true) ∧ Below w.heap.size w w' := by
  have HR := Lib.hid (lawRead LD LH A n c zs w hnc hc hn h)
  have HA := Lib.hid (fun W => lawAwake LE LD LH W)
  clear LE LD LH h
  go_enter Try.func4, Try.ntmps4
  go_wp2_with fail
  refine HR.out.mono ?_
  rintro e w1 ⟨rfl, hB1⟩
  have HB1 := Lib.hid hB1
  clear hB1
  go_wp2_with fail
  refine (HA.out w1).mono ?_
  rintro e w2 ⟨rfl, hB2⟩
  have HB2 := Lib.hid (HB1.out.trans (hB2.mono HB1.out.size))
  clear hB2
  go_wp2_with fail
  go_ret
  exact ⟨rfl, HB2.out⟩
end Go.Proofs.Ytgfifjcecpllbaa.Log
