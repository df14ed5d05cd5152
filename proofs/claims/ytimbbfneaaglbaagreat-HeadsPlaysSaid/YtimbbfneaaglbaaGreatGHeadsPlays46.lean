/- Stage 13. By an AI agent. -/
import Derived.Test.YtimbbfneaaglbaaGreatGHeadsPlays45
import Derived.Test.YtimbbfneaaglbaaGreatGHeadsPlays44
import Derived.Test.YtimbbfneaaglbaaGreatRows
import Derived.Test.YtimbbfneaaglbaaGreatGHeadsPlays4
namespace Go.Proofs.YtimbbfneaaglbaaGreat.Heads
open Go.RowKit Go.Proofs.YtimbbfneaaglbaaGreat.Ints Go.Proofs.YtimbbfneaaglbaaGreat.Mem Go.Proofs.YtimbbfneaaglbaaGreat.Trace Go.Proofs.YtimbbfneaaglbaaGreat.Record Go.Proofs.YtimbbfneaaglbaaGreat.Log Go.Proofs.YtimbbfneaaglbaaGreat.Src Go.Proofs.YtimbbfneaaglbaaGreat.Scan

def GotNew (zs : List Int) (f : Nat) (size : Int) (w : World) (e : Ending) (w' : World) : Prop := Below w.heap.size w w' ∧
      ((newE zs f size ≠ 0 ∧ e = .returned (.tuple #[.pointer none, .int .i64 (newE zs f size : Nat)])) ∨
       (newE zs f size = 0 ∧ ∃ g D N, e = .returned (.tuple #[.pointer (some ⟨g, 0, none⟩), .int .i64 0]) ∧ LandL zs f w' g D N (startP zs f size) ∧ (∀ q, D q → w.heap.size ≤ q) ∧ N ≤ 1099511627776))
theorem new_pool {zs sc : List Int} {f N : Nat} {size : Int} {w w1 w2 : World} {q : Nat} {A1 : Option Addr} {c1 : Nat} (hlen : zs.length ≤ 58000000) (hsz : ¬ size < 1) (hE : headE zs f = 0) (hb1 : Below w.heap.size w w1) (hq : w.heap.size ≤ q) (hq1 : q < w1.heap.size)
    (hown : w2.ownsRow w1.heap.size 9 1 (.slice A1 (headF zs f).1.length c1) (headF zs f).1.length ((headF zs f).1.map strS)) (hs : LSrc (fun b => w.heap.size ≤ b ∧ b < w1.heap.size ∧ b ≠ q) w2 q zs sc f N) (hN : N ≤ 0 + zs.length) (hg : w1.grownBy w2 (some q)) :
    GotNew zs f size w (.returned (.tuple #[.pointer (some ⟨w2.heap.size, 0, none⟩), .int .i64 0])) (w2.alloc (.cells #[.pointer (some ⟨q, 0, none⟩), .slice A1 (headF zs f).1.length c1, .int .i64 ((headF zs f).2.1 : Nat), .int .i64 size, .slice none 0 0, .int .i64 0, .int .i64 0] 75)) := by
  have hf := hs.le
  obtain ⟨hr1, hr2, -, hr4, hr5⟩ := recs_good hf hE
  obtain ⟨hwk, hple⟩ := walk_start hf hE
  have hn64 : (headF zs f).1.length ≤ 64 := by
    unfold headF
    exact (head_names (by split <;> decide)).1
  obtain ⟨hl1, hst, hnc, hcm⟩ := strs_own hown
  have hsz1 := hg.size
  have hsz0 := hb1.size
  have hne : newE zs f size = 0 := by unfold newE; rw [if_neg hsz]; exact hE
  obtain ⟨W, hW⟩ : ∃ W, w2.alloc (.cells #[.pointer (some ⟨q, 0, none⟩), .slice A1 (headF zs f).1.length c1, .int .i64 ((headF zs f).2.1 : Nat), .int .i64 size, .slice none 0 0, .int .i64 0, .int .i64 0] 75) = W := ⟨_, rfl⟩
  have hal : Below w2.heap.size w2 W := by rw [← hW]; exact (Below.refl _ w2).alloc (Nat.le_refl _) _
  have hzW : W.heap.size = w2.heap.size + 1 := by rw [← hW]; simp
  have hblk : Blk W w2.heap.size [.pointer (some ⟨q, 0, none⟩), .slice A1 (headF zs f).1.length c1, .int .i64 ((headF zs f).2.1 : Nat), .int .i64 size, .slice none 0 0, .int .i64 0, .int .i64 0] := by rw [← hW]; exact Blk.new w2 _ _ _ rfl
  have hbw : Below w.heap.size w W := ⟨hal.os.trans (hg.os.trans hb1.os), hal.tape.trans (hg.tape.trans hb1.tape), hal.output.trans (hg.output.trans hb1.output), by omega, fun b hb => (hal.block b (by omega)).trans ((hg.block b (by omega) (fun e => by injection e with e; omega)).trans (hb1.block b hb))⟩
  rw [hW]
  refine ⟨hbw, .inr ⟨hne, w2.heap.size, fun k => w.heap.size ≤ k ∧ k < W.heap.size, N, rfl, ?_, fun k e => e.1, by omega⟩⟩
  refine ⟨q, A1, c1, none, 0, 0, placeD (zs.take f) (headF zs f).2.1, ⟨?_, ⟨⟨sc, ?_⟩, by omega, ⟨hq, by omega⟩, ?_, ⟨?_, hcm⟩, fun a e h0 => ?_, ⟨by omega, by omega⟩, fun k e => e.2, hlen, ?_⟩, ?_, rfl, fun k e => (by cases e), hwk⟩⟩
  · show Blk W w2.heap.size [.pointer (some ⟨q, 0, none⟩), .slice A1 (recordsF zs f).1.names.length c1, .int .i64 ((headF zs f).2.1 : Nat), .int .i64 size, .slice none 0 0, .int .i64 0, .int .i64 0]
    rw [hr1]
    exact hblk
  · exact (hs.below hal).mono (fun k e => ⟨⟨e.1, by omega⟩, by omega, e.2.2⟩) (fun e => e.2.2 rfl)
  · show Strs W A1 (recordsF zs f).1.names
    rw [hr1]
    exact hst.below hal
  · show (recordsF zs f).1.names.length ≤ c1
    rw [hr1]
    exact hnc
  · have h0' : 0 < (headF zs f).1.length := by
      have h0 : 0 < (recordsF zs f).1.names.length := h0
      rwa [hr1] at h0
    subst e
    have h1 := hown.lt a.block rfl
    exact ⟨⟨by omega, by omega⟩, h1.2, by omega⟩
  · show (recordsF zs f).1.names.length ≤ 64
    rw [hr1]
    exact hn64
  · exact World.ownsRow_nil _ _ _ _
set_option maxHeartbeats 8000000 in
set_option maxRecDepth 100000 in
theorem land_new (A : Option Addr) (n c : Nat) (zs : List Int) (B : Option Addr) (m d : Nat) (sc : List Int) (fault size : Int) (w : World) (hnc : n ≤ c) (hc : c ≤ maxLen) (h : Rd .u8 w A n zs) (hs : Rd .i64 w B m sc) (hn : n ≤ 58000000) (hm : m * 8 ≤ 140737488351232) :
    Calls Tryz.prog 11 #[.slice A n c, .slice B m d, .int .i64 fault, .int .i64 size] w (GotNew zs (faultP n fault) size w) := by
  have hl := h.len
  have HNEW := Lib.hid (landNew A n c zs B m d sc fault w hnc hc h hs (by omega) hm)
  have HB0 := Lib.hid (Below.refl w.heap.size w)
  have HLEN := Lib.hid (show zs.length ≤ 58000000 by omega)
  obtain ⟨f, hf⟩ : ∃ f, faultP n fault = f := ⟨_, rfl⟩
  rw [hf] at HNEW ⊢
  clear h hs hf hl
  by_cases hsz : size < 1
  · have HE := Lib.hid (show newE zs f size = 1 by unfold newE; rw [if_pos hsz])
    go_enter Tryz.func11, Tryz.ntmps11
    go_wp2_with fail
    refine bodyPost_ret (v := .tuple #[.pointer none, .int .i64 1]) (by simp [results, Tryz.results11, go_sem]) rfl ?_
    unfold GotNew
    rw [HE.out]
    exact ⟨HB0.out, .inl ⟨by decide, rfl⟩⟩
  have HSZ := Lib.hid hsz
  go_enter Tryz.func11, Tryz.ntmps11
  go_wp2_with fail
  refine HNEW.out.mono ?_
  rintro e w1 ⟨q, rfl, hs1, hq, hb1⟩
  have hql := hs1.lt
  have HHD := Lib.hid (landHd _ q zs sc f 0 w1 hs1 (by omega) (by have := HLEN.out; omega))
  have HB1 := Lib.hid hb1
  clear hs1 hb1
  go_wp2_with fail
  refine HHD.out.mono ?_
  rintro e w2 ⟨A1, c1, N', rfl, hown, hs2, hN', hg2⟩
  obtain ⟨er, her⟩ : ∃ er, (headF zs f).2.2 = er := ⟨_, rfl⟩
  have hE : headE zs f = er := her
  rw [her]
  by_cases h0 : er = 0
  · subst h0
    have HEND := Lib.hid (new_pool (size := size) HLEN.out (by have := HSZ.out; omega) hE HB1.out hq hql hown hs2 hN' hg2)
    clear hown hs2 hN' hg2 her hE
    go_wp2_with fail
    refine bodyPost_ret (v := .tuple #[.pointer (some ⟨w2.heap.size, 0, none⟩), .int .i64 0]) (by simp [results, Tryz.results11, go_sem]) rfl ?_
    exact HEND.out
  · have h0' : ((er : Int) == 0) = false := by simp; omega
    have HE := Lib.hid (show newE zs f size = er by unfold newE; rw [if_neg (show ¬ size < 1 by have := HSZ.out; omega)]; exact hE)
    have HBW := Lib.hid (show Below w.heap.size w w2 from ⟨hg2.os.trans HB1.out.os, hg2.tape.trans HB1.out.tape, hg2.output.trans HB1.out.output, Nat.le_trans HB1.out.size hg2.size, fun b hb => (hg2.block b (by have := HB1.out.size; omega) (fun e => by injection e with e; omega)).trans (HB1.out.block b hb)⟩)
    clear hown hs2 hN' hg2 her hE
    go_wp2_with fail
    refine bodyPost_ret (v := .tuple #[.pointer none, .int .i64 (er : Nat)]) (by simp [results, Tryz.results11, go_sem]) rfl ?_
    unfold GotNew
    rw [HE.out]
    exact ⟨HBW.out, .inl ⟨h0, rfl⟩⟩
end Go.Proofs.YtimbbfneaaglbaaGreat.Heads

namespace Go.Proofs.YtimbbfneaaglbaaGreat.Heads
open Go.RowKit Go.Proofs.YtimbbfneaaglbaaGreat.Ints Go.Proofs.YtimbbfneaaglbaaGreat.Mem Go.Proofs.YtimbbfneaaglbaaGreat.Trace Go.Proofs.YtimbbfneaaglbaaGreat.Record Go.Proofs.YtimbbfneaaglbaaGreat.Log Go.Proofs.YtimbbfneaaglbaaGreat.Src Go.Proofs.YtimbbfneaaglbaaGreat.Scan

theorem landPool : ∃ L : LPool, PoolC L := ⟨LandL, {
  keep := land_keep
  lt := fun b f w g D N s h => by
    obtain ⟨q, NA, nc, A, n, c, pl, h⟩ := h
    exact ⟨h.ln.dg, h.ln.lt⟩
  new := fun A n c zs B m d sc fault size w hnc hc h hs hn hm _ _ => land_new A n c zs B m d sc fault size w hnc hc h hs hn hm
  open_ := fun b f w g D N s h hok hl _ => land_open b f w g D N s h hok hl
  clone := fun b f w g D N s id h hok hl _ _ => land_clone b f w g D N s id h hok hl
  next := fun b f w g D N s id h hok hl hN _ => land_next b f w g D N s id h hok hl hN
  seek := fun b f w g D N s id k h hok hl hN _ hk => land_seek b f w g D N s id k h hok hl hN hk
  close := fun b f w g D N s id h hok hl _ _ => land_close b f w g D N s id h hok hl
  index := fun b f w g D N s id h _ hl _ _ => land_index b f w g D N s id h hl
  count := fun b f w g D N s h _ _ _ => land_count b f w g D N s h
  cells := fun b f w g D N s h _ _ _ => land_cells b f w g D N s h
  peak := fun b f w g D N s h _ _ _ => land_peak b f w g D N s h
  names := fun b f w g D N s h _ _ _ => land_names b f w g D N s h }⟩
end Go.Proofs.YtimbbfneaaglbaaGreat.Heads

namespace Go.Proofs.YtimbbfneaaglbaaGreat.Upto
open Go.RowKit Go.ChangeShapes Go.WideShapes Go.Deep Go.Proofs.YtimbbfneaaglbaaGreat.Ints Go.Proofs.YtimbbfneaaglbaaGreat.Mem Go.Proofs.YtimbbfneaaglbaaGreat.Trace

section
variable {H : Type} {enc : TypeId × Value → H} {w : World}
theorem one_le (d : DataW H) : 1 ≤ Rows.uptoBulk d := by
  cases d with
  | lit l => cases l <;> simp [Rows.uptoBulk]
  | _ => simp [Rows.uptoBulk]
theorem part_le {d : DataW H} {l : List (DataW H)} {B : Nat} (h : d ∈ l) (hb : Rows.uptoBulkAll l ≤ B) : Rows.uptoBulk d ≤ B := by
  induction l with
  | nil => cases h
  | cons x r ih =>
    simp only [Rows.uptoBulkAll] at hb
    cases List.mem_cons.1 h with
    | inl e => subst e; omega
    | inr e => exact ih e (by omega)
theorem many_le (l : List (DataW H)) : l.length ≤ Rows.uptoBulkAll l := by
  induction l with
  | nil => simp
  | cons x r ih => have := one_le x; simp only [Rows.uptoBulkAll, List.length_cons]; omega
theorem count_le {t e : TypeId} {fuel len cap B : Nat} {A : Option Addr} {x : DataW H × List MemPlace} (ht : Tryz.prog.underlying t = some (.slice e))
    (h : DataW.trod enc Tryz.prog w 0 (fun _ => true) true fuel t [.slice A len cap] = some x) (hb : Rows.uptoBulk x.1 ≤ B) : cap ≤ B := by
  rcases open_slice ht h with ⟨hcs, -⟩ | ⟨a, l', c', m, n, D, Pl, hcs, -, hl, hm, hmm, rfl, hi⟩
  · simp at hcs
    omega
  · simp at hcs
    obtain ⟨rfl, rfl, rfl⟩ := hcs
    have hm' : m = cap := by simpa using hmm
    have h1 := many_le ((List.range len).map D)
    have h2 := many_le ((List.range (m - len)).map fun j => D (len + j))
    simp only [List.length_map, List.length_range] at h1 h2
    simp only [Rows.uptoBulk] at hb
    omega
theorem strs_le {fuel len cap B : Nat} {A : Option Addr} {x : DataW H × List MemPlace} (h : DataW.trod enc Tryz.prog w 0 (fun _ => true) true fuel 30 [.slice A len cap] = some x) (hb : Rows.uptoBulk x.1 ≤ B)
    {l : List (List UInt8)} (hl0 : l.length = len) (hs : Strs w A l) : ∀ s ∈ l, s.length ≤ B := by
  intro s hsm
  obtain ⟨i, hi', rfl⟩ := List.getElem_of_mem hsm
  rcases open_slice Tryz.underlying30 h with ⟨hcs, -⟩ | ⟨a, l', c', m, n, D, Pl, hcs, -, hl, hm, hmm, rfl, hi⟩
  · simp at hcs
    omega
  · simp at hcs
    obtain ⟨rfl, rfl, rfl⟩ := hcs
    have hm' : m = cap := by simpa using hmm
    have cellsStr : Tryz.prog.cellsOf 9 = 1 := by kernel_rfl
    obtain ⟨cs', hc, ht⟩ := hi i (by omega)
    rw [cellsStr] at hc
    obtain ⟨-, hcl, hat⟩ := World.cells?_some hc
    obtain ⟨b, off, hA, hcell⟩ := hs (by omega)
    obtain rfl : a = ⟨b, off, none⟩ := by simpa using hA
    have h0 := hat 0 (by omega)
    have hv : cs'[0]? = some (cs'[0]'(by omega)) := List.getElem?_eq_getElem (by omega)
    obtain ⟨nm, c1, c2, w1⟩ := DataW.trod_string Tryz.underlying9 ht
    have hc1 : cs'[0]? = some (.string nm) := by rw [c1]; rfl
    rw [hc1] at h0
    have e : (((⟨b, off, none⟩ : Addr).add (i * 1)).add 0) = ⟨b, off + i, none⟩ := by simp [Addr.add]
    rw [e] at h0
    have h2 := hcell i _ (List.getElem?_eq_getElem hi')
    rw [h2] at h0
    have h3 : nm = ⟨l[i].toArray⟩ := by simpa [strS] using h0.symm
    have hD : D i = .lit (.string nm.data.toList) := congrArg Prod.fst c2
    have hmem : D i ∈ (List.range len).map D := List.mem_map.2 ⟨i, List.mem_range.2 (by omega), rfl⟩
    have hb2 : Rows.uptoBulkAll ((List.range len).map D) ≤ B := by
      simp only [Rows.uptoBulk] at hb
      omega
    have h4 := part_le hmem hb2
    rw [hD] at h4
    simp only [Rows.uptoBulk] at h4
    have h5 : nm.data.toList.length = l[i].length := by rw [h3]
    omega
theorem sum_le : ∀ (ls : List (DataW H)) (ss : List (List UInt8)), ls.length = ss.length → (∀ (i : Nat) (d : DataW H) (s : List UInt8), ls[i]? = some d → ss[i]? = some s → s.length ≤ Rows.uptoBulk d) → (ss.map List.length).sum ≤ Rows.uptoBulkAll ls := by
  intro ls
  induction ls with
  | nil =>
    intro ss h _
    rw [List.eq_nil_of_length_eq_zero h.symm]
    simp
  | cons d ls ih =>
    intro ss h hh
    cases ss with
    | nil => simp at h
    | cons s ss =>
      have h1 := hh 0 d s rfl rfl
      have h2 := ih ss (by simpa using h) (fun i d' s' hd hs => hh (i + 1) d' s' (by simpa using hd) (by simpa using hs))
      simp only [Rows.uptoBulkAll, List.map_cons, List.sum_cons]
      omega
theorem strs_sum {fuel len cap B : Nat} {A : Option Addr} {x : DataW H × List MemPlace} (h : DataW.trod enc Tryz.prog w 0 (fun _ => true) true fuel 30 [.slice A len cap] = some x) (hb : Rows.uptoBulk x.1 ≤ B)
    {l : List (List UInt8)} (hl0 : l.length = len) (hs : Strs w A l) : (l.map List.length).sum ≤ B := by
  rcases open_slice Tryz.underlying30 h with ⟨hcs, -⟩ | ⟨a, l', c', m, n, D, Pl, hcs, -, hl, hm, hmm, rfl, hi⟩
  · simp at hcs
    have : l = [] := List.eq_nil_of_length_eq_zero (by omega)
    rw [this]
    simp
  · simp at hcs
    obtain ⟨rfl, rfl, rfl⟩ := hcs
    have hm' : m = cap := by simpa using hmm
    have cellsStr : Tryz.prog.cellsOf 9 = 1 := by kernel_rfl
    have hb2 : Rows.uptoBulkAll ((List.range len).map D) ≤ B := by
      simp only [Rows.uptoBulk] at hb
      omega
    refine Nat.le_trans (sum_le ((List.range len).map D) l (by simp [hl0]) fun i d s hd hse => ?_) hb2
    have hi' : i < l.length := (List.getElem?_eq_some_iff.1 hse).1
    obtain ⟨cs', hc, ht⟩ := hi i (by omega)
    rw [cellsStr] at hc
    obtain ⟨-, hcl, hat⟩ := World.cells?_some hc
    obtain ⟨b, off, hA, hcell⟩ := hs (by omega)
    obtain rfl : a = ⟨b, off, none⟩ := by simpa using hA
    have h0 := hat 0 (by omega)
    obtain ⟨nm, c1, c2, w1⟩ := DataW.trod_string Tryz.underlying9 ht
    have hc1 : cs'[0]? = some (.string nm) := by rw [c1]; rfl
    rw [hc1] at h0
    have e : (((⟨b, off, none⟩ : Addr).add (i * 1)).add 0) = ⟨b, off + i, none⟩ := by simp [Addr.add]
    rw [e] at h0
    have h2 := hcell i _ hse
    rw [h2] at h0
    have h3 : nm = ⟨s.toArray⟩ := by simpa [strS] using h0.symm
    have hD : D i = .lit (.string nm.data.toList) := congrArg Prod.fst c2
    have hd2 : D i = d := by
      rw [List.getElem?_map, List.getElem?_range (by omega)] at hd
      simpa using hd
    rw [← hd2, hD]
    simp only [Rows.uptoBulk]
    have h5 : nm.data.toList.length = s.length := by rw [h3]
    omega
theorem thrice_le (l : List (DataW H)) (h : ∀ d ∈ l, 3 ≤ Rows.uptoBulk d) : 3 * l.length ≤ Rows.uptoBulkAll l := by
  induction l with
  | nil => simp
  | cons x r ih =>
    have h1 := h x (List.mem_cons_self ..)
    have h2 := ih fun d hd => h d (List.mem_cons_of_mem _ hd)
    simp only [Rows.uptoBulkAll, List.length_cons]
    omega
set_option maxRecDepth 100000 in
theorem event_three {fuel : Nat} {cs : List Value} {x : DataW H × List MemPlace} (h : DataW.trod enc Tryz.prog w 0 (fun _ => true) true fuel 38 cs = some x) : 3 ≤ Rows.uptoBulk x.1 := by
  obtain ⟨ys, m, -, hx, -, hlen, -⟩ := DataW.trod_struct structEvent h
  have hsz2 : (Tryz.prog.fieldsOf 38).size = 2 := by
    have := congrArg List.length fieldsEvent
    simpa using this
  have hd : x.1 = .agg (ys.map (·.1)) := congrArg Prod.fst hx
  have h1 := many_le (ys.map (·.1))
  rw [List.length_map] at h1
  rw [hd]
  simp only [Rows.uptoBulk]
  omega
theorem events_le {fuel len cap B : Nat} {A : Option Addr} {x : DataW H × List MemPlace} (h : DataW.trod enc Tryz.prog w 0 (fun _ => true) true fuel 31 [.slice A len cap] = some x) (hb : Rows.uptoBulk x.1 ≤ B) : 3 * cap ≤ B := by
  rcases open_slice Tryz.underlying31 h with ⟨hcs, -⟩ | ⟨a, l', c', m, n, D, Pl, hcs, -, hl, hm, hmm, rfl, hi⟩
  · simp at hcs
    omega
  · simp at hcs
    obtain ⟨rfl, rfl, rfl⟩ := hcs
    have hm' : m = cap := by simpa using hmm
    have h3 : ∀ i, i < m → 3 ≤ Rows.uptoBulk (D i) := fun i hi' => by
      obtain ⟨cs', -, ht⟩ := hi i hi'
      exact event_three ht
    have h1 := thrice_le ((List.range len).map D) (fun d hd => by
      obtain ⟨i, hi', rfl⟩ := List.mem_map.1 hd
      exact h3 i (by have := List.mem_range.1 hi'; omega))
    have h2 := thrice_le ((List.range (m - len)).map fun j => D (len + j)) (fun d hd => by
      obtain ⟨i, hi', rfl⟩ := List.mem_map.1 hd
      exact h3 (len + i) (by have := List.mem_range.1 hi'; omega))
    simp only [List.length_map, List.length_range] at h1 h2
    simp only [Rows.uptoBulk] at hb
    omega
set_option maxRecDepth 100000 in
theorem trace_le {d : DataW H} {p : List MemPlace} {NA EA : Option Addr} {nn nc ne ec B : Nat} (h : DataW.Trod enc Tryz.prog w 0 (fun _ => true) true 33 (.agg #[.slice NA nn nc, .slice EA ne ec]) d p) (hb : Rows.uptoBulk d ≤ B) :
    nc ≤ B ∧ 3 * ec ≤ B := by
  obtain ⟨fuel, hf⟩ := h
  obtain ⟨ys, m, -, hx, -, hlen, hf⟩ := DataW.trod_struct structTrace hf
  have hsz2 : (Tryz.prog.fieldsOf 33).size = 2 := by
    have := congrArg List.length fieldsTrace
    simpa using this
  obtain ⟨f0, g0, t0, o0⟩ := field_at fieldsTrace (i := 0) rfl
  obtain ⟨f1, g1, t1, o1⟩ := field_at fieldsTrace (i := 1) rfl
  obtain ⟨y0, e0⟩ : ∃ y, ys[0]? = some y := ⟨_, List.getElem?_eq_getElem (by omega)⟩
  obtain ⟨y1, e1⟩ : ∃ y, ys[1]? = some y := ⟨_, List.getElem?_eq_getElem (by omega)⟩
  have k0 := hf 0 f0 g0
  have k1 := hf 1 f1 g1
  rw [t0, o0, e0, cellsNames] at k0
  rw [t1, o1, e1, cellsEvents] at k1
  have hd : d = .agg (ys.map (·.1)) := congrArg Prod.fst hx
  rw [hd] at hb
  simp only [Rows.uptoBulk] at hb
  have hb2 : Rows.uptoBulkAll (ys.map (·.1)) ≤ B := by omega
  have m0 : y0.1 ∈ ys.map (·.1) := List.mem_map.2 ⟨y0, List.mem_of_getElem? e0, rfl⟩
  have m1 : y1.1 ∈ ys.map (·.1) := List.mem_map.2 ⟨y1, List.mem_of_getElem? e1, rfl⟩
  exact ⟨count_le Tryz.underlying30 k0 (part_le m0 hb2), events_le k1 (part_le m1 hb2)⟩
end
end Go.Proofs.YtimbbfneaaglbaaGreat.Upto
