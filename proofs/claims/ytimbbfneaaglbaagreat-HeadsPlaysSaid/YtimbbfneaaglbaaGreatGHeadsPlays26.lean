/-
  The law's plays (stage 13): any calls on both pools. By an AI agent.
-/
import Derived.Test.YtimbbfneaaglbaaGreatGHeadsPlays24
import Derived.Test.YtimbbfneaaglbaaGreatGHeadsPlays25
namespace Go.Proofs.YtimbbfneaaglbaaGreat.Heads
open Go.RowKit Go.Proofs.YtimbbfneaaglbaaGreat.Ints Go.Proofs.YtimbbfneaaglbaaGreat.Mem Go.Proofs.YtimbbfneaaglbaaGreat.Trace Go.Proofs.YtimbbfneaaglbaaGreat.Record Go.Proofs.YtimbbfneaaglbaaGreat.Log Go.Proofs.YtimbbfneaaglbaaGreat.Src

theorem add_len (s : PS) (k : Nat) : (addP s k).2.2.hs.length ≤ s.hs.length + 1 ∧ (addP s k).2.2.t = s.t := by
  unfold addP
  split
  · exact ⟨Nat.le_succ _, rfl⟩
  · refine ⟨?_, rfl⟩
    show (putP s.hs (freeP s.hs) k).length ≤ _
    unfold putP
    split
    · rw [List.length_set]; exact Nat.le_succ _
    · rw [List.length_append]; exact Nat.le_refl _
theorem did_len (s : PS) (r : Nat) (id k : Int) : (didP s r id k).hs.length ≤ s.hs.length + 1 ∧ (didP s r id k).t = s.t := by
  unfold didP
  split
  · exact add_len s 0
  · unfold cloneP
    split
    · exact ⟨Nat.le_succ _, rfl⟩
    · exact add_len s _
  · unfold nextP
    split
    · exact ⟨Nat.le_succ _, rfl⟩
    · split
      · exact ⟨by show (s.hs.set _ _).length ≤ _; rw [List.length_set]; exact Nat.le_succ _, rfl⟩
      · exact ⟨Nat.le_succ _, rfl⟩
  · unfold seekP
    split
    · exact ⟨Nat.le_succ _, rfl⟩
    · split
      · exact ⟨Nat.le_succ _, rfl⟩
      · split
        · exact ⟨Nat.le_succ _, rfl⟩
        · exact ⟨by show (s.hs.set _ _).length ≤ _; rw [List.length_set]; exact Nat.le_succ _, rfl⟩
  · unfold closeP
    split
    · exact ⟨Nat.le_succ _, rfl⟩
    · exact ⟨by show (s.hs.set _ _).length ≤ _; rw [List.length_set]; exact Nat.le_succ _, rfl⟩
/-- The greatest number of cells is that of some lists of heads. -/
theorem did_peak (s : PS) (r : Nat) (id k : Int) : (didP s r id k).peak = s.peak ∨ (didP s r id k).peak = max s.peak (cellsP (didP s r id k).t (didP s r id k).hs) := by
  have hadd : ∀ k, (addP s k).2.2.peak = s.peak ∨ (addP s k).2.2.peak = max s.peak (cellsP (addP s k).2.2.t (addP s k).2.2.hs) := fun k => by
    unfold addP
    split
    · exact .inl rfl
    · exact .inr rfl
  unfold didP
  split
  · exact hadd 0
  · unfold cloneP
    split
    · exact .inl rfl
    · exact hadd _
  · unfold nextP
    split
    · exact .inl rfl
    · split
      · exact .inr rfl
      · exact .inl rfl
  · unfold seekP
    split
    · exact .inl rfl
    · split
      · exact .inl rfl
      · split
        · exact .inl rfl
        · exact .inr rfl
  · unfold closeP
    split
    · exact .inl rfl
    · exact .inl rfl
theorem did_cells {s : PS} (h : OkP s) (r : Nat) (id k : Int) {n : Nat} (hn : s.hs.length ≤ n) (hp : s.peak ≤ 67 * n) : (didP s r id k).hs.length ≤ n + 1 ∧ (didP s r id k).peak ≤ 67 * (n + 1) := by
  have h1 := (did_len s r id k).1
  have h2 := cells_le (h.did r id k).atp (didP s r id k).hs.length
  rw [List.take_of_length_le (Nat.le_refl _)] at h2
  refine ⟨by omega, ?_⟩
  rcases did_peak s r id k with e | e
  · omega
  · omega
/-- The landed Names, and what the reference holds. -/
theorem BothP.namesL {L : LPool} (C : PoolC L) {b : List Int} {f : Nat} {X : Nat → Prop} {w : World} {gp gr base B : Nat} {sl sr : PS} (h : BothP L b f X w gp gr base B sl sr) (hok : OkP sl) (hl : sl.hs.length ≤ 100000) (hB : B ≤ 2305843009213693952) :
    ∃ NA nc, w.cell? ⟨gr, 0, none⟩ = some (.slice NA sr.t.names.length nc) ∧ sr.t.names.length ≤ nc ∧ nc ≤ maxLen ∧ (∀ s ∈ sr.t.names, s.length ≤ maxLen) ∧
      Calls Tryz.prog 20 #[.pointer (some ⟨gp, 0, none⟩)] w fun e w' => ∃ A c, e = .returned (.slice A sl.t.names.length c) ∧ Strs w' A sl.t.names ∧ sl.t.names.length ≤ c ∧ c ≤ maxLen ∧ Strs w' NA sr.t.names ∧ w'.cell? ⟨gr, 0, none⟩ = some (.slice NA sr.t.names.length nc) ∧ Step L b f X w w' gp gr base (B + 1099511627776) sl sr := by
  obtain ⟨Dp, Dr, N, h1, h2, h3, h4, h5, h6, h7⟩ := h.ex
  obtain ⟨NA, nn, nc, EA, ne, ec, v1, v2, ats, e1, e2, e3, -⟩ := h2.ex
  have hnl := e2.nlen
  refine ⟨NA, nc, by rw [hnl]; exact e1.cell 0 rfl, by rw [hnl]; exact e2.ncap.1, e2.ncap.2, e2.sizes, ?_⟩
  refine (C.names b f w gp Dp N sl h1 hok hl (by omega)).mono ?_
  rintro e w' ⟨A, c, D', N', he, hst, hA, hc1, hc2, g1, g2, g3, g4⟩
  refine ⟨A, c, he, hst, hc1, hc2, strs_at e2.names (fun a ha h0 => g3.block _ (h2.lt _ (e3 a ha h0).1) (fun hp => h3 _ hp (e3 a ha h0).1)), ((World.cell?_of_block (a := ⟨gr, 0, none⟩) (g3.block gr (h2.lt _ h2.dg) (fun hp => h3 _ hp h2.dg))).trans (by rw [hnl]; exact e1.cell 0 rfl)), ⟨⟨D', Dr, N', g1, h2.left g3 (fun q hq hp => h3 q hp hq), fun q hq hr => ?_, fun q hq => ?_, h5, by omega, fun q hq => ⟨fun hd => ?_, (h7 q hq).2⟩⟩, fun q hq => Nat.lt_of_lt_of_le (h.lt q hq) g3.size, Nat.le_trans h.base g3.size⟩, Kept.of_left g3 (fun q hq => ⟨(h7 q hq).1, h.lt q hq⟩), g3.below h4 h.base⟩
  · rcases g2 q hq with e2 | e2
    · exact h3 q e2 hr
    · have := h2.lt q hr; omega
  · rcases g2 q hq with e2 | e2
    · exact h4 q e2
    · exact Nat.le_trans h.base e2
  · rcases g2 q hd with e2 | e2
    · exact (h7 q hq).1 e2
    · have := h.lt q hq; omega

theorem BothP.rp {L : LPool} {b : List Int} {f : Nat} {X : Nat → Prop} {w : World} {gp gr base B : Nat} {sl sr : PS} (h : BothP L b f X w gp gr base B sl sr) : ∃ D, RP w gr D sr := by
  obtain ⟨Dp, Dr, N, h1, h2, -⟩ := h.ex
  exact ⟨Dr, h2⟩
theorem BothP.peakCell {L : LPool} {b : List Int} {f : Nat} {X : Nat → Prop} {w : World} {gp gr base B : Nat} {sl sr : PS} (h : BothP L b f X w gp gr base B sl sr) : w.cell? ⟨gr, 6, none⟩ = some (.int .i64 (sr.peak : Nat)) := by
  obtain ⟨D, hr⟩ := h.rp
  obtain ⟨NA, nn, nc, EA, ne, ec, v1, v2, ats, e1, -⟩ := hr.ex
  exact e1.cell 6 rfl
/-- Two pools that were made one after the other. -/
theorem BothP.made {L : LPool} (C : PoolC L) {b : List Int} {f : Nat} {w w1 w2 : World} {gp gr N : Nat} {Dp Dr : Nat → Prop} {s : PS} (hB1 : Below w.heap.size w w1) (hL : L b f w1 gp Dp N s) (hD : ∀ q, Dp q → w.heap.size ≤ q) (hN : N ≤ 1099511627776) (hB2 : Below w1.heap.size w1 w2) (hR : RP w2 gr Dr s) (hDr : ∀ q, Dr q → w1.heap.size ≤ q) :
    BothP L b f (fun _ => False) w2 gp gr w.heap.size 1099511627776 s s :=
  ⟨⟨Dp, Dr, N, C.keep _ _ _ _ _ _ _ _ hL (fun q hq => hB2.block q ((C.lt _ _ _ _ _ _ _ hL).2 q hq)) hB2.size, hR, fun q hq hr => by have h1 := (C.lt _ _ _ _ _ _ _ hL).2 q hq; have h2 := hDr q hr; omega, hD, fun q hq => Nat.le_trans hB1.size (hDr q hq), hN, fun q hq => False.elim hq⟩, fun q hq => False.elim hq, Nat.le_trans hB1.size hB2.size⟩

set_option maxHeartbeats 16000000 in
set_option maxRecDepth 100000 in
theorem lawPlays {L : LPool} (C : PoolC L) (A : Option Addr) (n c : Nat) (zs : List Int) (B : Option Addr) (m d : Nat) (sc : List Int) (fault size : Int) (LA : Option Addr) (ln lc : Nat) (rows : List (List Int)) (w : World) (hnc : n ≤ c) (hc : c ≤ maxLen) (hn : n ≤ 58000000) (h : Rd .u8 w A n zs) (hs : Rd .i64 w B m sc) (hm : m * 8 ≤ 140737488351232)
    (hfa : small64 fault) (hsz : small64 size) (hrl : rows.length = ln) (hra : IntRows [.u8, .i64, .i64] w LA rows) (hln : ln ≤ 300) (hlc : ln ≤ lc) :
    Calls Tryz.prog 6 #[.slice A n c, .slice B m d, .int .i64 fault, .int .i64 size, .slice LA ln lc] w fun e w' => e = .returned (.bool true) ∧ Below w.heap.size w w' := by
  have q63 : maxLen = 9223372036854775807 := rfl
  have HN := Lib.hid (C.new A n c zs B m d sc fault size w hnc hc h hs hn hm hfa hsz)
  have HR := Lib.hid (fun W (hb : Below w.heap.size w W) => refNewPool A n c zs W hnc hc hn (h.below hb) fault size hsz)
  have hf : faultP n fault ≤ zs.length := by rw [h.len]; exact fault_le n fault
  have HOK := Lib.hid (fun h0 => start_ok (b := zs) (f := faultP n fault) (size := size) hf h0)
  have HRA := Lib.hid hra
  have HRL := Lib.hid hrl
  obtain ⟨f, hff⟩ : ∃ f, faultP n fault = f := ⟨_, rfl⟩
  obtain ⟨er, her⟩ : ∃ er, newE zs f size = er := ⟨_, rfl⟩
  obtain ⟨s0, hs0⟩ : ∃ s0, startP zs f size = s0 := ⟨_, rfl⟩
  have HHS := Lib.hid (show s0.hs = [] ∧ s0.peak = 0 by rw [← hs0]; exact ⟨rfl, rfl⟩)
  rw [hff, her, hs0] at HN HR HOK
  unfold GotPool at HR
  clear h hs hra hrl hff her hs0 hf
  go_enter Tryz.func6, Tryz.ntmps6
  go_wp2_with fail
  refine HN.out.mono ?_
  rintro e w1 ⟨hB1, (⟨hne, rfl⟩ | ⟨hne, gp, Dp, N, rfl, hL, hD, hN⟩)⟩
  · have HB1 := Lib.hid hB1
    have hne' : ((er : Int) == 0) = false := by simp; omega
    clear hB1
    go_wp2_with fail
    refine (HR.out w1 HB1.out).mono ?_
    rintro e w2 ⟨hB2, (⟨-, rfl⟩ | ⟨h0, -⟩)⟩
    · have HB2 := Lib.hid (HB1.out.trans (hB2.mono HB1.out.size))
      clear hB2
      go_wp2
      go_ret
      exact ⟨rfl, HB2.out⟩
    · exact absurd h0 hne
  subst hne
  have HB1 := Lib.hid hB1
  have HL := Lib.hid hL
  have HDD := Lib.hid hD
  clear hB1 hL hD
  go_wp2_with fail
  refine (HR.out w1 HB1.out).mono ?_
  rintro e w2 ⟨hB2, (⟨h0, -⟩ | ⟨-, gr, Dr, rfl, hR, hDr⟩)⟩
  · exact absurd rfl h0
  have HB2 := Lib.hid (HB1.out.trans (hB2.mono HB1.out.size))
  have HBP := Lib.hid (BothP.made C HB1.out HL.out HDD.out hN hB2 hR hDr)
  have HOK0 := Lib.hid (HOK.out trivial)
  clear hB2 hR hDr HL HDD HN HR HOK HB1
  have hdr := (Below.refl w2.heap.size w2).drew
  have hbd := HBP.out.below C hdr
  obtain ⟨V, hV⟩ : ∃ V, w2.drew = V := ⟨_, rfl⟩
  rw [hV] at hdr hbd
  have HBV := Lib.hid (HB2.out.trans (hdr.mono HB2.out.size))
  obtain ⟨NA, nc, hn0, hnc1, hnc2, hnsz, hnames⟩ := hbd.namesL C HOK0.out (by rw [HHS.out.1]; exact Nat.zero_le _) (by omega)
  have HNM := Lib.hid hnames
  have hn00 : w2.cell? ⟨gr, 0, none⟩ = some (.slice NA s0.t.names.length nc) := by rw [← hV] at hn0; exact hn0
  clear hdr hbd hnames hn0
  go_wp2_with fail
  refine wp_region_held_drew (S := fun W => W.cell? ⟨gr, 0, none⟩ = some (.slice NA s0.t.names.length nc)) (by kernel_rfl) (by exact hn00) (fun hHeld => ?_)
  rw [hV] at hHeld ⊢
  clear hV hn00
  refine wpAnyH_take (i := 0) (oi := ?tko1) (v := ?tkv1) ?tkh1 (by kernel_rfl) (by kernel_rfl) (by kernel_rfl) ?tkq1 ?tky1 hHeld ?tkr1
  case tkh1 => (simp only [List.getElem?_toArray, List.getElem?_cons_zero]; rfl)
  case tkq1 => exact fun _ _ _ h => h
  case tky1 => exact Or.inl ⟨by rfl, by intro wSw hSw; (try dsimp only at hSw); go_simp; try with_reducible rfl⟩
  try simp only [Act.put, List.setIfInBounds_toArray, List.set_cons_zero, List.set_cons_succ]
  refine wpAnyH_take (i := 2) (oi := ?tko2) (v := ?tkv2) ?tkh2 (by kernel_rfl) (by kernel_rfl) (by kernel_rfl) ?tkq2 ?tky2 hHeld ?tkr2
  case tkh2 => (simp only [List.getElem?_toArray, List.getElem?_cons_succ, List.getElem?_cons_zero]; rfl)
  case tkq2 => exact fun _ _ _ h => h
  case tky2 => exact Or.inl ⟨by rfl, by intro wSw hSw; (try dsimp only at hSw); go_simp; try with_reducible rfl⟩
  try simp only [Act.put, List.setIfInBounds_toArray, List.set_cons_zero, List.set_cons_succ]
  refine wpAnyH_take (i := 3) (oi := ?tko3) (v := ?tkv3) ?tkh3 (by kernel_rfl) (by kernel_rfl) (by kernel_rfl) ?tkq3 ?tky3 hHeld ?tkr3
  case tkh3 => (simp only [List.getElem?_toArray, List.getElem?_cons_succ, List.getElem?_cons_zero]; rfl)
  case tkq3 => exact fun _ _ _ h => h
  case tky3 => exact Or.inl ⟨by rfl, by intro wSw hSw; (try dsimp only at hSw); go_simp; try with_reducible rfl⟩
  try simp only [Act.put, List.setIfInBounds_toArray, List.set_cons_zero, List.set_cons_succ]
  refine wpAnyH_take (i := 4) (oi := ?tko4) (v := ?tkv4) ?tkh4 (by kernel_rfl) (by kernel_rfl) (by kernel_rfl) ?tkq4 ?tky4 hHeld ?tkr4
  case tkh4 => (simp only [List.getElem?_toArray, List.getElem?_cons_succ, List.getElem?_cons_zero]; rfl)
  case tkq4 => exact fun _ _ _ h => h
  case tky4 => exact Or.inl ⟨by rfl, by intro wSw hSw; (try dsimp only at hSw); go_simp; try with_reducible rfl⟩
  try simp only [Act.put, List.setIfInBounds_toArray, List.set_cons_zero, List.set_cons_succ]
  refine wpAnyH_take (i := 5) (oi := ?tko5) (v := ?tkv5) ?tkh5 (by kernel_rfl) (by kernel_rfl) (by kernel_rfl) ?tkq5 ?tky5 hHeld ?tkr5
  case tkh5 => (simp only [List.getElem?_toArray, List.getElem?_cons_succ, List.getElem?_cons_zero]; rfl)
  case tkq5 => exact fun _ _ _ h => h
  case tky5 => exact Or.inl ⟨by rfl, by intro wSw hSw; (try dsimp only at hSw); go_simp; try with_reducible rfl⟩
  try simp only [Act.put, List.setIfInBounds_toArray, List.set_cons_zero, List.set_cons_succ]
  refine wpAnyH_take (i := 6) (oi := ?tko6) (v := ?tkv6) ?tkh6 (by kernel_rfl) (by kernel_rfl) (by kernel_rfl) ?tkq6 ?tky6 hHeld ?tkr6
  case tkh6 => (simp only [List.getElem?_toArray, List.getElem?_cons_succ, List.getElem?_cons_zero]; rfl)
  case tkq6 => exact fun _ _ _ h => h
  case tky6 => exact Or.inl ⟨by rfl, by intro wSw hSw; (try dsimp only at hSw); go_simp; try with_reducible rfl⟩
  try simp only [Act.put, List.setIfInBounds_toArray, List.set_cons_zero, List.set_cons_succ]
  refine wpAnyH_ready (rs := [1]) (by kernel_rfl) (by simp) ?_
  refine AllReadyH.cons (o := ?tko7) ?tkh7 (fun Kt7 hKt7 => ?_) AllReadyH.nil
  case tkh7 => (simp only [List.getElem?_toArray, List.getElem?_cons_succ, List.getElem?_cons_zero]; rfl)
  go_simp
  (refine HNM.out.mono ?_; rintro e w3 ⟨A3, c3, rfl, hst3, hc31, hc32, hst4, hcell3, hs3⟩; have HEQ := Lib.hid (equalStrs A3 NA _ c3 _ nc s0.t.names s0.t.names w3 rfl rfl hst3 hst4 (by omega) (by omega)); have HS3 := Lib.hid hs3; clear hs3 hst3 hst4)
  refine hKt7.out _ _ ?_ (fun hHt7 => ?_)
  · (exact hcell3)
  clear hKt7 Kt7 hHeld
  have hHeld := hHt7
  clear hHt7
  try simp only [Act.put, List.setIfInBounds_toArray, List.set_cons_zero, List.set_cons_succ]
  refine wpAnyH_ready (rs := [7]) (by kernel_rfl) (by simp) ?_
  refine AllReadyH.cons (o := ?tko8) ?tkh8 (fun Kt8 hKt8 => ?_) AllReadyH.nil
  case tkh8 => (simp only [List.getElem?_toArray, List.getElem?_cons_succ, List.getElem?_cons_zero]; rfl)
  go_simp
  (refine HEQ.out.mono ?_; rintro e w4 ⟨rfl, q, rfl⟩; rw [show decide (s0.t.names = s0.t.names) = true from decide_eq_true rfl])
  refine hKt8.out _ _ ?_ (fun hHt8 => ?_)
  · (exact hcell3)
  clear hKt8 Kt8 hHeld
  have hHeld := hHt8
  clear hHt8
  try simp only [Act.put, List.setIfInBounds_toArray, List.set_cons_zero, List.set_cons_succ]
  refine wpAnyH_take (i := 8) (oi := ?tko9) (v := ?tkv9) ?tkh9 (by kernel_rfl) (by kernel_rfl) (by kernel_rfl) ?tkq9 ?tky9 hHeld ?tkr9
  case tkh9 => (simp only [List.getElem?_toArray, List.getElem?_cons_succ, List.getElem?_cons_zero]; rfl)
  case tkq9 => exact fun _ _ _ h => h
  case tky9 => exact Or.inl ⟨by rfl, by intro wSw hSw; (try dsimp only at hSw); go_simp; try with_reducible rfl⟩
  try simp only [Act.put, List.setIfInBounds_toArray, List.set_cons_zero, List.set_cons_succ]
  refine wpAnyH_done (by kernel_rfl) ?_ _
  clear hHeld hcell3
  have HS4 := Lib.hid (HS3.out.below C (below_drewN (Below.refl w3.heap.size w3) q))
  obtain ⟨w4, hw4⟩ : ∃ w4, w3.drewN q = w4 := ⟨_, rfl⟩
  rw [hw4] at HS4 ⊢
  have HB4 := Lib.hid (HBV.out.trans HS4.out.2.2)
  clear hw4 HEQ HS3 HNM
  go_wp2_with fail
  go_loopw [57] (fun i wr => ∃ (k : Nat) (s : PS) (Bk : Nat), k ≤ ln ∧ i = .int .i64 (k : Nat) ∧ BothP L zs f (fun _ => False) wr gp gr w.heap.size Bk s s ∧ OkP s ∧ s.hs.length ≤ k ∧ s.peak ≤ 67 * k ∧ Bk ≤ 8796093022208 * (k + 1) ∧ Below w.heap.size w wr) (fun i _ => ln - (intOf i).toNat)
  case atStart => exact ⟨0, s0, 2199023255552, Nat.zero_le _, rfl, HS4.out.1.less (fun q hq => hq) (by omega), HOK0.out, by rw [HHS.out.1]; exact Nat.le_refl _, by rw [HHS.out.2]; exact Nat.le_refl _, by omega, HB4.out⟩
  case round =>
    obtain ⟨k, s, Bk, hk, rfl, hbp, hok, hsl, hsp, hBk, hBr⟩ := hrel
    by_cases hkn : k < ln
    rotate_left
    · obtain rfl : k = ln := by omega
      have hkn' : ¬ ((k : Int) < (k : Int)) := by omega
      have HBR := Lib.hid hBr
      clear hbp hok
      go_wp2
      go_ret
      exact ⟨rfl, HBR.out⟩
    have hkn' : (k : Int) < (ln : Int) := by omega
    obtain ⟨bb, off, x, y, z, rfl, -, r0, r1, r2, wx, wy, wz⟩ := (HRA.out.below hBr).three (j := k) (by rw [HRL.out]; exact hkn)
    have hx255 := wf_u8 wx
    have hy64 := wf_i64 wy
    have hz64 := wf_i64 wz
    obtain ⟨r, hr⟩ : ∃ r : Nat, x % 5 = (r : Int) := ⟨(x % 5).toNat, by omega⟩
    have hlc' : (ln : Int) ≤ (lc : Int) := by omega
    have hal := (Below.refl _ wr).alloc (Nat.le_refl _) (.cells #[.int .u8 x, .int .i64 y, .int .i64 z] 59)
    have hb1 := hbp.box C (.cells #[.int .u8 x, .int .i64 y, .int .i64 z] 59)
    have hx1 := Blk.new wr #[.int .u8 x, .int .i64 y, .int .i64 z] 59 [.int .u8 x, .int .i64 y, .int .i64 z] rfl
    have HBR1 := Lib.hid (hBr.trans (hal.mono hBr.size))
    obtain ⟨w5, hw5⟩ : ∃ w5, wr.alloc (.cells #[.int .u8 x, .int .i64 y, .int .i64 z] 59) = w5 := ⟨_, rfl⟩
    obtain ⟨g0, hg0⟩ : ∃ g0, wr.heap.size = g0 := ⟨_, rfl⟩
    rw [hw5] at hb1 hx1 HBR1
    rw [hg0] at hb1 hx1
    have hdr := (Below.refl w5.heap.size w5).drew
    have hb6 := hb1.below C hdr
    have hx6 := hx1.later hdr
    obtain ⟨w6, hw6⟩ : ∃ w6, w5.drew = w6 := ⟨_, rfl⟩
    rw [hw6] at hdr hb6 hx6
    have HDR := Lib.hid hdr
    have HD := Lib.hid (lawDid C hb6 hok (by omega) (by omega) (by omega) x r hr hx255 y z hy64 hz64)
    have hdl := did_cells hok r y z hsl hsp
    have HOK1 := Lib.hid (hok.did r y z)
    obtain ⟨s', hs'⟩ : ∃ s', didP s r y z = s' := ⟨_, rfl⟩
    rw [hs'] at HD hdl HOK1
    have HX6 := Lib.hid hx6
    have x0 := hx1.cell 0 rfl
    have x1 := hx1.cell 1 rfl
    have x2 := hx1.cell 2 rfl
    obtain ⟨hdl1, hdl2⟩ := hdl
    have HME := Lib.hid (meter_id HOK1.out)
    clear hal hb1 hx1 hdr hb6 hx6 hs' hbp hok hBr
    go_wp2_with fail
    refine wp_region_held_drew (S := fun W => W.cell? ⟨g0, 0, none⟩ = some (.int .u8 x) ∧ W.cell? ⟨g0, 1, none⟩ = some (.int .i64 y) ∧ W.cell? ⟨g0, 2, none⟩ = some (.int .i64 z)) (by kernel_rfl) (by exact ⟨x0, x1, x2⟩) (fun hHeld => ?_)
    rw [hw6] at hHeld ⊢
    clear hw5 hw6 hg0 x0 x1 x2
    refine wpAnyH_take (i := 0) (oi := ?tko10) (v := ?tkv10) ?tkh10 (by kernel_rfl) (by kernel_rfl) (by kernel_rfl) ?tkq10 ?tky10 hHeld ?tkr10
    case tkh10 => (simp only [List.getElem?_toArray, List.getElem?_cons_zero]; rfl)
    case tkq10 => exact fun _ _ _ h => h
    case tky10 => exact Or.inl ⟨by rfl, by intro wSw hSw; (try dsimp only at hSw); go_simp; try with_reducible rfl⟩
    try simp only [Act.put, List.setIfInBounds_toArray, List.set_cons_zero, List.set_cons_succ]
    refine wpAnyH_take (i := 1) (oi := ?tko11) (v := ?tkv11) ?tkh11 (by kernel_rfl) (by kernel_rfl) (by kernel_rfl) ?tkq11 ?tky11 hHeld ?tkr11
    case tkh11 => (simp only [List.getElem?_toArray, List.getElem?_cons_succ, List.getElem?_cons_zero]; rfl)
    case tkq11 => exact fun _ _ _ h => h
    case tky11 => exact Or.inl ⟨by rfl, by intro wSw hSw; (try dsimp only at hSw); go_simp; try with_reducible rfl⟩
    try simp only [Act.put, List.setIfInBounds_toArray, List.set_cons_zero, List.set_cons_succ]
    refine wpAnyH_take (i := 2) (oi := ?tko12) (v := ?tkv12) ?tkh12 (by kernel_rfl) (by kernel_rfl) (by kernel_rfl) ?tkq12 ?tky12 hHeld ?tkr12
    case tkh12 => (simp only [List.getElem?_toArray, List.getElem?_cons_succ, List.getElem?_cons_zero]; rfl)
    case tkq12 => exact fun _ _ _ h => h
    case tky12 => exact Or.inl ⟨by rfl, by intro wSw hSw; (try dsimp only at hSw); go_simp; try with_reducible rfl⟩
    try simp only [Act.put, List.setIfInBounds_toArray, List.set_cons_zero, List.set_cons_succ]
    refine wpAnyH_ready (rs := [3]) (by kernel_rfl) (by simp) ?_
    refine AllReadyH.cons (o := ?tko13) ?tkh13 (fun Kt13 hKt13 => ?_) AllReadyH.nil
    case tkh13 => (simp only [List.getElem?_toArray, List.getElem?_cons_succ, List.getElem?_cons_zero]; rfl)
    go_simp
    (refine HD.out.mono ?_; rintro e w7 ⟨rfl, hs7⟩; have hx7 := HX6.out.same hs7.2.2.size (hs7.2.1 _ (.inr rfl)); have HC7 := Lib.hid (hs7.1.land C (fun D N hL hN => C.count zs f w7 gp D N s' hL HOK1.out (by omega) (by omega))); have HS7 := Lib.hid hs7; clear hs7)
    refine hKt13.out _ _ ?_ (fun hHt13 => ?_)
    · (exact ⟨hx7.cell 0 rfl, hx7.cell 1 rfl, hx7.cell 2 rfl⟩)
    clear hKt13 Kt13 hHeld
    have hHeld := hHt13
    clear hHt13
    try simp only [Act.put, List.setIfInBounds_toArray, List.set_cons_zero, List.set_cons_succ]
    refine wpAnyH_take (i := 4) (oi := ?tko14) (v := ?tkv14) ?tkh14 (by kernel_rfl) (by kernel_rfl) (by kernel_rfl) ?tkq14 ?tky14 hHeld ?tkr14
    case tkh14 => (simp only [List.getElem?_toArray, List.getElem?_cons_succ, List.getElem?_cons_zero]; rfl)
    case tkq14 => exact fun _ _ _ h => h
    case tky14 => exact Or.inl ⟨by rfl, by intro wSw hSw; (try dsimp only at hSw); go_simp; try with_reducible rfl⟩
    try simp only [Act.put, List.setIfInBounds_toArray, List.set_cons_zero, List.set_cons_succ]
    refine wpAnyH_take (i := 5) (oi := ?tko15) (v := ?tkv15) ?tkh15 (by kernel_rfl) (by kernel_rfl) (by kernel_rfl) ?tkq15 ?tky15 hHeld ?tkr15
    case tkh15 => (simp only [List.getElem?_toArray, List.getElem?_cons_succ, List.getElem?_cons_zero]; rfl)
    case tkq15 => exact fun _ _ _ h => h
    case tky15 => exact Or.inl ⟨by rfl, by intro wSw hSw; (try dsimp only at hSw); go_simp; try with_reducible rfl⟩
    try simp only [Act.put, List.setIfInBounds_toArray, List.set_cons_zero, List.set_cons_succ]
    refine wpAnyH_take (i := 6) (oi := ?tko16) (v := ?tkv16) ?tkh16 (by kernel_rfl) (by kernel_rfl) (by kernel_rfl) ?tkq16 ?tky16 hHeld ?tkr16
    case tkh16 => (simp only [List.getElem?_toArray, List.getElem?_cons_succ, List.getElem?_cons_zero]; rfl)
    case tkq16 => exact fun _ _ _ h => h
    case tky16 => exact Or.inl ⟨by rfl, by intro wSw hSw; (try dsimp only at hSw); go_simp; try with_reducible rfl⟩
    try simp only [Act.put, List.setIfInBounds_toArray, List.set_cons_zero, List.set_cons_succ]
    refine wpAnyH_take (i := 8) (oi := ?tko17) (v := ?tkv17) ?tkh17 (by kernel_rfl) (by kernel_rfl) (by kernel_rfl) ?tkq17 ?tky17 hHeld ?tkr17
    case tkh17 => (simp only [List.getElem?_toArray, List.getElem?_cons_succ, List.getElem?_cons_zero]; rfl)
    case tkq17 => exact fun _ _ _ h => h
    case tky17 => exact Or.inl ⟨by rfl, by intro wSw hSw; (try dsimp only at hSw); go_simp; try with_reducible rfl⟩
    try simp only [Act.put, List.setIfInBounds_toArray, List.set_cons_zero, List.set_cons_succ]
    refine wpAnyH_ready (rs := [7]) (by kernel_rfl) (by simp) ?_
    refine AllReadyH.cons (o := ?tko18) ?tkh18 (fun Kt18 hKt18 => ?_) AllReadyH.nil
    case tkh18 => (simp only [List.getElem?_toArray, List.getElem?_cons_succ, List.getElem?_cons_zero]; rfl)
    go_simp
    (refine HC7.out.mono ?_; rintro e w8 ⟨rfl, hs8⟩; have hx8 := hx7.same hs8.2.2.size (hs8.2.1 _ (.inr rfl)); have HRP := Lib.hid hs8.1.rp; have HS8 := Lib.hid (HS7.out.trans hs8 (fun q hq => hq)); clear hs8)
    refine hKt18.out _ _ ?_ (fun hHt18 => ?_)
    · (exact ⟨hx8.cell 0 rfl, hx8.cell 1 rfl, hx8.cell 2 rfl⟩)
    clear hKt18 Kt18 hHeld
    have hHeld := hHt18
    clear hHt18
    try simp only [Act.put, List.setIfInBounds_toArray, List.set_cons_zero, List.set_cons_succ]
    obtain ⟨D8, hr8⟩ := HRP.out
    have HC8 := Lib.hid (refCount w8 gr D8 s' hr8)
    have HL8 := Lib.hid (HS8.out.1.land C (fun D N hL hN => C.cells zs f w8 gp D N s' hL HOK1.out (by omega) (by omega)))
    clear hr8
    refine wpAnyH_ready (rs := [9]) (by kernel_rfl) (by simp) ?_
    refine AllReadyH.cons (o := ?tko19) ?tkh19 (fun Kt19 hKt19 => ?_) AllReadyH.nil
    case tkh19 => (simp only [List.getElem?_toArray, List.getElem?_cons_succ, List.getElem?_cons_zero]; rfl)
    go_simp
    (refine HC8.out.mono ?_; rintro e w9 ⟨rfl, rfl⟩)
    refine hKt19.out _ _ ?_ (fun hHt19 => ?_)
    · (exact ⟨hx8.cell 0 rfl, hx8.cell 1 rfl, hx8.cell 2 rfl⟩)
    clear hKt19 Kt19 hHeld
    have hHeld := hHt19
    clear hHt19
    try simp only [Act.put, List.setIfInBounds_toArray, List.set_cons_zero, List.set_cons_succ]
    refine wpAnyH_take (i := 10) (oi := ?tko20) (v := ?tkv20) ?tkh20 (by kernel_rfl) (by kernel_rfl) (by kernel_rfl) ?tkq20 ?tky20 hHeld ?tkr20
    case tkh20 => (simp only [List.getElem?_toArray, List.getElem?_cons_succ, List.getElem?_cons_zero]; rfl)
    case tkq20 => exact fun _ _ _ h => h
    case tky20 => exact Or.inl ⟨by rfl, by intro wSw hSw; (try dsimp only at hSw); go_simp; try with_reducible rfl⟩
    try simp only [Act.put, List.setIfInBounds_toArray, List.set_cons_zero, List.set_cons_succ]
    refine wpAnyH_take (i := 11) (oi := ?tko21) (v := ?tkv21) ?tkh21 (by kernel_rfl) (by kernel_rfl) (by kernel_rfl) ?tkq21 ?tky21 hHeld ?tkr21
    case tkh21 => (simp only [List.getElem?_toArray, List.getElem?_cons_succ, List.getElem?_cons_zero]; rfl)
    case tkq21 => exact fun _ _ _ h => h
    case tky21 => exact Or.inl ⟨by rfl, by intro wSw hSw; (try dsimp only at hSw); go_simp; try with_reducible rfl⟩
    try simp only [Act.put, List.setIfInBounds_toArray, List.set_cons_zero, List.set_cons_succ]
    refine wpAnyH_take (i := 12) (oi := ?tko22) (v := ?tkv22) ?tkh22 (by kernel_rfl) (by kernel_rfl) (by kernel_rfl) ?tkq22 ?tky22 hHeld ?tkr22
    case tkh22 => (simp only [List.getElem?_toArray, List.getElem?_cons_succ, List.getElem?_cons_zero]; rfl)
    case tkq22 => exact fun _ _ _ h => h
    case tky22 => exact Or.inl ⟨by rfl, by intro wSw hSw; (try dsimp only at hSw); go_simp; try with_reducible rfl⟩
    try simp only [Act.put, List.setIfInBounds_toArray, List.set_cons_zero, List.set_cons_succ]
    refine wpAnyH_take (i := 13) (oi := ?tko23) (v := ?tkv23) ?tkh23 (by kernel_rfl) (by kernel_rfl) (by kernel_rfl) ?tkq23 ?tky23 hHeld ?tkr23
    case tkh23 => (simp only [List.getElem?_toArray, List.getElem?_cons_succ, List.getElem?_cons_zero]; rfl)
    case tkq23 => exact fun _ _ _ h => h
    case tky23 => exact Or.inl ⟨by rfl, by intro wSw hSw; (try dsimp only at hSw); go_simp; try with_reducible rfl⟩
    try simp only [Act.put, List.setIfInBounds_toArray, List.set_cons_zero, List.set_cons_succ]
    refine wpAnyH_take (i := 15) (oi := ?tko24) (v := ?tkv24) ?tkh24 (by kernel_rfl) (by kernel_rfl) (by kernel_rfl) ?tkq24 ?tky24 hHeld ?tkr24
    case tkh24 => (simp only [List.getElem?_toArray, List.getElem?_cons_succ, List.getElem?_cons_zero]; rfl)
    case tkq24 => exact fun _ _ _ h => h
    case tky24 => exact Or.inl ⟨by rfl, by intro wSw hSw; (try dsimp only at hSw); go_simp; try with_reducible rfl⟩
    try simp only [Act.put, List.setIfInBounds_toArray, List.set_cons_zero, List.set_cons_succ]
    refine wpAnyH_ready (rs := [14]) (by kernel_rfl) (by simp) ?_
    refine AllReadyH.cons (o := ?tko25) ?tkh25 (fun Kt25 hKt25 => ?_) AllReadyH.nil
    case tkh25 => (simp only [List.getElem?_toArray, List.getElem?_cons_succ, List.getElem?_cons_zero]; rfl)
    go_simp
    (refine HL8.out.mono ?_; rintro e w10 ⟨rfl, hs10⟩; have hx10 := hx8.same hs10.2.2.size (hs10.2.1 _ (.inr rfl)); have HC10 := Lib.hid (hs10.1.ref C (fun D hr => refCells w10 gr D s' hr HOK1.out.atp (by omega) (by omega))); have HS10 := Lib.hid (HS8.out.trans hs10 (fun q hq => hq)); clear hs10)
    refine hKt25.out _ _ ?_ (fun hHt25 => ?_)
    · (exact ⟨hx10.cell 0 rfl, hx10.cell 1 rfl, hx10.cell 2 rfl⟩)
    clear hKt25 Kt25 hHeld
    have hHeld := hHt25
    clear hHt25
    try simp only [Act.put, List.setIfInBounds_toArray, List.set_cons_zero, List.set_cons_succ]
    rw [HME.out] at HC10
    refine wpAnyH_ready (rs := [16]) (by kernel_rfl) (by simp) ?_
    refine AllReadyH.cons (o := ?tko26) ?tkh26 (fun Kt26 hKt26 => ?_) AllReadyH.nil
    case tkh26 => (simp only [List.getElem?_toArray, List.getElem?_cons_succ, List.getElem?_cons_zero]; rfl)
    go_simp
    (refine HC10.out.mono ?_; rintro e w11 ⟨rfl, hs11⟩; have hx11 := hx10.same hs11.2.2.size (hs11.2.1 _ (.inr rfl)); have hpk11 := hs11.1.peakCell; have HL11 := Lib.hid (hs11.1.land C (fun D N hL hN => C.peak zs f w11 gp D N s' hL HOK1.out (by omega) (by omega))); have HS11 := Lib.hid (HS10.out.trans hs11 (fun q hq => hq)); clear hs11)
    refine hKt26.out _ _ ?_ (fun hHt26 => ?_)
    · (exact ⟨hx11.cell 0 rfl, hx11.cell 1 rfl, hx11.cell 2 rfl⟩)
    clear hKt26 Kt26 hHeld
    have hHeld := hHt26
    clear hHt26
    try simp only [Act.put, List.setIfInBounds_toArray, List.set_cons_zero, List.set_cons_succ]
    refine Held.more (fun W => (W.cell? ⟨g0, 0, none⟩ = some (.int .u8 x) ∧ W.cell? ⟨g0, 1, none⟩ = some (.int .i64 y) ∧ W.cell? ⟨g0, 2, none⟩ = some (.int .i64 z)) ∧ W.cell? ⟨gr, 6, none⟩ = some (.int .i64 (s'.peak : Nat))) (fun _ h => h.1) ⟨⟨hx11.cell 0 rfl, hx11.cell 1 rfl, hx11.cell 2 rfl⟩, hpk11⟩ (fun hHeld => ?_)
    refine wpAnyH_take (i := 17) (oi := ?tko27) (v := ?tkv27) ?tkh27 (by kernel_rfl) (by kernel_rfl) (by kernel_rfl) ?tkq27 ?tky27 hHeld ?tkr27
    case tkh27 => (simp only [List.getElem?_toArray, List.getElem?_cons_succ, List.getElem?_cons_zero]; rfl)
    case tkq27 => exact fun _ _ _ h => h
    case tky27 => exact Or.inl ⟨by rfl, by intro wSw hSw; (try dsimp only at hSw); go_simp; try with_reducible rfl⟩
    try simp only [Act.put, List.setIfInBounds_toArray, List.set_cons_zero, List.set_cons_succ]
    refine wpAnyH_take (i := 18) (oi := ?tko28) (v := ?tkv28) ?tkh28 (by kernel_rfl) (by kernel_rfl) (by kernel_rfl) ?tkq28 ?tky28 hHeld ?tkr28
    case tkh28 => (simp only [List.getElem?_toArray, List.getElem?_cons_succ, List.getElem?_cons_zero]; rfl)
    case tkq28 => exact fun _ _ _ h => h
    case tky28 => exact Or.inl ⟨by rfl, by intro wSw hSw; (try dsimp only at hSw); go_simp; try with_reducible rfl⟩
    try simp only [Act.put, List.setIfInBounds_toArray, List.set_cons_zero, List.set_cons_succ]
    refine wpAnyH_take (i := 19) (oi := ?tko29) (v := ?tkv29) ?tkh29 (by kernel_rfl) (by kernel_rfl) (by kernel_rfl) ?tkq29 ?tky29 hHeld ?tkr29
    case tkh29 => (simp only [List.getElem?_toArray, List.getElem?_cons_succ, List.getElem?_cons_zero]; rfl)
    case tkq29 => exact fun _ _ _ h => h
    case tky29 => exact Or.inl ⟨by rfl, by intro wSw hSw; (try dsimp only at hSw); go_simp; try with_reducible rfl⟩
    try simp only [Act.put, List.setIfInBounds_toArray, List.set_cons_zero, List.set_cons_succ]
    refine wpAnyH_take (i := 20) (oi := ?tko30) (v := ?tkv30) ?tkh30 (by kernel_rfl) (by kernel_rfl) (by kernel_rfl) ?tkq30 ?tky30 hHeld ?tkr30
    case tkh30 => (simp only [List.getElem?_toArray, List.getElem?_cons_succ, List.getElem?_cons_zero]; rfl)
    case tkq30 => exact fun _ _ _ h => h
    case tky30 => exact Or.inl ⟨by rfl, by intro wSw hSw; (try dsimp only at hSw); go_simp; try with_reducible rfl⟩
    try simp only [Act.put, List.setIfInBounds_toArray, List.set_cons_zero, List.set_cons_succ]
    refine wpAnyH_take (i := 22) (oi := ?tko31) (v := ?tkv31) ?tkh31 (by kernel_rfl) (by kernel_rfl) (by kernel_rfl) ?tkq31 ?tky31 hHeld ?tkr31
    case tkh31 => (simp only [List.getElem?_toArray, List.getElem?_cons_succ, List.getElem?_cons_zero]; rfl)
    case tkq31 => exact fun _ _ _ h => h
    case tky31 => exact Or.inl ⟨by rfl, by intro wSw hSw; (try dsimp only at hSw); go_simp; try with_reducible rfl⟩
    try simp only [Act.put, List.setIfInBounds_toArray, List.set_cons_zero, List.set_cons_succ]
    refine wpAnyH_take (i := 23) (oi := ?tko32) (v := ?tkv32) ?tkh32 (by kernel_rfl) (by kernel_rfl) (by kernel_rfl) ?tkq32 ?tky32 hHeld ?tkr32
    case tkh32 => (simp only [List.getElem?_toArray, List.getElem?_cons_succ, List.getElem?_cons_zero]; rfl)
    case tkq32 => exact fun _ _ _ h => h
    case tky32 => exact Or.inl ⟨by rfl, by intro wSw hSw; (try dsimp only at hSw); go_simp; try with_reducible rfl⟩
    try simp only [Act.put, List.setIfInBounds_toArray, List.set_cons_zero, List.set_cons_succ]
    refine wpAnyH_take (i := 24) (oi := ?tko33) (v := ?tkv33) ?tkh33 (by kernel_rfl) (by kernel_rfl) (by kernel_rfl) ?tkq33 ?tky33 hHeld ?tkr33
    case tkh33 => (simp only [List.getElem?_toArray, List.getElem?_cons_succ, List.getElem?_cons_zero]; rfl)
    case tkq33 => exact fun _ _ _ h => h
    case tky33 => exact Or.inl ⟨by rfl, by intro wSw hSw; (try dsimp only at hSw); go_simp; try with_reducible rfl⟩
    try simp only [Act.put, List.setIfInBounds_toArray, List.set_cons_zero, List.set_cons_succ]
    refine wpAnyH_take (i := 25) (oi := ?tko34) (v := ?tkv34) ?tkh34 (by kernel_rfl) (by kernel_rfl) (by kernel_rfl) ?tkq34 ?tky34 hHeld ?tkr34
    case tkh34 => (simp only [List.getElem?_toArray, List.getElem?_cons_succ, List.getElem?_cons_zero]; rfl)
    case tkq34 => exact fun _ _ _ h => h
    case tky34 => exact Or.inl ⟨by rfl, by intro wSw hSw; (try dsimp only at hSw); go_simp; try with_reducible rfl⟩
    try simp only [Act.put, List.setIfInBounds_toArray, List.set_cons_zero, List.set_cons_succ]
    refine wpAnyH_ready (rs := [21]) (by kernel_rfl) (by simp) ?_
    refine AllReadyH.cons (o := ?tko35) ?tkh35 (fun Kt35 hKt35 => ?_) AllReadyH.nil
    case tkh35 => (simp only [List.getElem?_toArray, List.getElem?_cons_succ, List.getElem?_cons_zero]; rfl)
    go_simp
    (refine HL11.out.mono ?_; rintro e w12 ⟨rfl, hs12⟩; have hx12 := hx11.same hs12.2.2.size (hs12.2.1 _ (.inr rfl)); have hpk12 := hs12.1.peakCell; have HS12 := Lib.hid (HS11.out.trans hs12 (fun q hq => hq)); clear hs12)
    refine hKt35.out _ _ ?_ (fun hHt35 => ?_)
    · (exact ⟨⟨hx12.cell 0 rfl, hx12.cell 1 rfl, hx12.cell 2 rfl⟩, hpk12⟩)
    clear hKt35 Kt35 hHeld
    have hHeld := hHt35
    clear hHt35
    try simp only [Act.put, List.setIfInBounds_toArray, List.set_cons_zero, List.set_cons_succ]
    refine wpAnyH_take (i := 26) (oi := ?tko36) (v := ?tkv36) ?tkh36 (by kernel_rfl) (by kernel_rfl) (by kernel_rfl) ?tkq36 ?tky36 hHeld ?tkr36
    case tkh36 => (simp only [List.getElem?_toArray, List.getElem?_cons_succ, List.getElem?_cons_zero]; rfl)
    case tkq36 => exact fun _ _ _ h => h
    case tky36 => exact Or.inl ⟨by rfl, by intro wSw hSw; (try dsimp only at hSw); go_simp; try with_reducible rfl⟩
    try simp only [Act.put, List.setIfInBounds_toArray, List.set_cons_zero, List.set_cons_succ]
    refine wpAnyH_take (i := 27) (oi := ?tko37) (v := ?tkv37) ?tkh37 (by kernel_rfl) (by kernel_rfl) (by kernel_rfl) ?tkq37 ?tky37 hHeld ?tkr37
    case tkh37 => (simp only [List.getElem?_toArray, List.getElem?_cons_succ, List.getElem?_cons_zero]; rfl)
    case tkq37 => exact fun _ _ _ h => h
    case tky37 => exact Or.inl ⟨by rfl, by intro wSw hSw; (try dsimp only at hSw); go_simp; try with_reducible rfl⟩
    try simp only [Act.put, List.setIfInBounds_toArray, List.set_cons_zero, List.set_cons_succ]
    refine wpAnyH_done (by kernel_rfl) ?_ _
    clear hHeld hpk11 hpk12 hx7 hx8 hx10 hx11
    have HX12 := Lib.hid hx12
    have x1 := hx12.cell 1 rfl
    have HI := Lib.hid (HS12.out.1.land C (fun D N hL hN => C.index zs f w12 gp D N s' y hL HOK1.out (by omega) (by omega) hy64))
    clear hx12
    obtain ⟨o, ho⟩ : ∃ o, headP s'.hs y = o := ⟨_, rfl⟩
    cases o with
    | none =>
      have HI2 := Lib.hid (show Calls Tryz.prog 24 #[.pointer (some ⟨gp, 0, none⟩), .int .i64 y] w12 fun e w' => e = .returned (.tuple #[.int .i64 0, .bool false]) ∧ Step L zs f (fun q => False ∨ q = g0) w12 w' gp gr w.heap.size _ s' s' from by have h := HI.out; rw [ho] at h; exact h)
      clear HI
      go_wp2_with fail
      refine HI2.out.mono ?_
      rintro e w13 ⟨rfl, hs13⟩
      have hx13 := HX12.out.same hs13.2.2.size (hs13.2.1 _ (.inr rfl))
      have HS13 := Lib.hid (HS12.out.trans hs13 (fun q hq => hq))
      have x0 := hx13.cell 0 rfl
      have x1 := hx13.cell 1 rfl
      have x2 := hx13.cell 2 rfl
      have hdr := (Below.refl w13.heap.size w13).drew
      have HS15 := Lib.hid (HS13.out.below C hdr)
      have hrp := HS15.out.1.rp
      obtain ⟨w15, hw15⟩ : ∃ w15, w13.drew = w15 := ⟨_, rfl⟩
      rw [hw15] at HS15 hrp
      obtain ⟨D15, hr15⟩ := hrp
      have HH := Lib.hid (refHas w15 gr D15 s' hr15 y hy64)
      rw [ho] at HH
      clear hs13 hx13 hdr hr15
      go_wp2_with fail
      refine wp_region_held_drew (S := fun W => W.cell? ⟨g0, 0, none⟩ = some (.int .u8 x) ∧ W.cell? ⟨g0, 1, none⟩ = some (.int .i64 y) ∧ W.cell? ⟨g0, 2, none⟩ = some (.int .i64 z)) (by kernel_rfl) (by exact ⟨x0, x1, x2⟩) (fun hHeld => ?_)
      rw [hw15] at hHeld ⊢
      clear hw15 x0 x1 x2
      refine wpAnyH_take (i := 0) (oi := ?tko38) (v := ?tkv38) ?tkh38 (by kernel_rfl) (by kernel_rfl) (by kernel_rfl) ?tkq38 ?tky38 hHeld ?tkr38
      case tkh38 => (simp only [List.getElem?_toArray, List.getElem?_cons_zero]; rfl)
      case tkq38 => exact fun _ _ _ h => h
      case tky38 => exact Or.inl ⟨by rfl, by intro wSw hSw; (try dsimp only at hSw); go_simp; try with_reducible rfl⟩
      try simp only [Act.put, List.setIfInBounds_toArray, List.set_cons_zero, List.set_cons_succ]
      refine wpAnyH_take (i := 1) (oi := ?tko39) (v := ?tkv39) ?tkh39 (by kernel_rfl) (by kernel_rfl) (by kernel_rfl) ?tkq39 ?tky39 hHeld ?tkr39
      case tkh39 => (simp only [List.getElem?_toArray, List.getElem?_cons_succ, List.getElem?_cons_zero]; rfl)
      case tkq39 => exact fun _ _ _ h => h
      case tky39 => exact Or.inl ⟨by rfl, by intro wSw hSw; (try dsimp only at hSw); go_simp; try with_reducible rfl⟩
      try simp only [Act.put, List.setIfInBounds_toArray, List.set_cons_zero, List.set_cons_succ]
      refine wpAnyH_take (i := 2) (oi := ?tko40) (v := ?tkv40) ?tkh40 (by kernel_rfl) (by kernel_rfl) (by kernel_rfl) ?tkq40 ?tky40 hHeld ?tkr40
      case tkh40 => (simp only [List.getElem?_toArray, List.getElem?_cons_succ, List.getElem?_cons_zero]; rfl)
      case tkq40 => exact fun _ _ _ h => h
      case tky40 => exact Or.inl ⟨by rfl, by intro wSw hSw; (try dsimp only at hSw); go_simp; try with_reducible rfl⟩
      try simp only [Act.put, List.setIfInBounds_toArray, List.set_cons_zero, List.set_cons_succ]
      refine wpAnyH_take (i := 3) (oi := ?tko41) (v := ?tkv41) ?tkh41 (by kernel_rfl) (by kernel_rfl) (by kernel_rfl) ?tkq41 ?tky41 hHeld ?tkr41
      case tkh41 => (simp only [List.getElem?_toArray, List.getElem?_cons_succ, List.getElem?_cons_zero]; rfl)
      case tkq41 => exact fun _ _ _ h => h
      case tky41 => exact Or.inl ⟨by rfl, by intro wSw hSw; (try dsimp only at hSw); go_simp; try with_reducible rfl⟩
      try simp only [Act.put, List.setIfInBounds_toArray, List.set_cons_zero, List.set_cons_succ]
      refine wpAnyH_ready (rs := [4]) (by kernel_rfl) (by simp) ?_
      refine AllReadyH.cons (o := ?tko42) ?tkh42 (fun Kt42 hKt42 => ?_) AllReadyH.nil
      case tkh42 => (simp only [List.getElem?_toArray, List.getElem?_cons_succ, List.getElem?_cons_zero]; rfl)
      go_simp
      (refine HH.out.mono ?_; rintro e w16 ⟨rfl, rfl⟩)
      refine hKt42.out _ _ ?_ (fun hHt42 => ?_)
      · (exact hHeld)
      clear hKt42 Kt42 hHeld
      have hHeld := hHt42
      clear hHt42
      try simp only [Act.put, List.setIfInBounds_toArray, List.set_cons_zero, List.set_cons_succ]
      refine wpAnyH_take (i := 5) (oi := ?tko43) (v := ?tkv43) ?tkh43 (by kernel_rfl) (by kernel_rfl) (by kernel_rfl) ?tkq43 ?tky43 hHeld ?tkr43
      case tkh43 => (simp only [List.getElem?_toArray, List.getElem?_cons_succ, List.getElem?_cons_zero]; rfl)
      case tkq43 => exact fun _ _ _ h => h
      case tky43 => exact Or.inl ⟨by rfl, by intro wSw hSw; (try dsimp only at hSw); go_simp; try with_reducible rfl⟩
      try simp only [Act.put, List.setIfInBounds_toArray, List.set_cons_zero, List.set_cons_succ]
      refine wpAnyH_take (i := 6) (oi := ?tko44) (v := ?tkv44) ?tkh44 (by kernel_rfl) (by kernel_rfl) (by kernel_rfl) ?tkq44 ?tky44 hHeld ?tkr44
      case tkh44 => (simp only [List.getElem?_toArray, List.getElem?_cons_succ, List.getElem?_cons_zero]; rfl)
      case tkq44 => exact fun _ _ _ h => h
      case tky44 => exact Or.inl ⟨by rfl, by intro wSw hSw; (try dsimp only at hSw); go_simp; try with_reducible rfl⟩
      try simp only [Act.put, List.setIfInBounds_toArray, List.set_cons_zero, List.set_cons_succ]
      refine wpAnyH_take (i := 7) (oi := ?tko45) (v := ?tkv45) ?tkh45 (by kernel_rfl) (by kernel_rfl) (by kernel_rfl) ?tkq45 ?tky45 hHeld ?tkr45
      case tkh45 => (simp only [List.getElem?_toArray, List.getElem?_cons_succ, List.getElem?_cons_zero]; rfl)
      case tkq45 => exact fun _ _ _ h => h
      case tky45 => exact Or.inl ⟨by rfl, by intro wSw hSw; (try dsimp only at hSw); go_simp; try with_reducible rfl⟩
      try simp only [Act.put, List.setIfInBounds_toArray, List.set_cons_zero, List.set_cons_succ]
      refine wpAnyH_take (i := 8) (oi := ?tko46) (v := ?tkv46) ?tkh46 (by kernel_rfl) (by kernel_rfl) (by kernel_rfl) ?tkq46 ?tky46 hHeld ?tkr46
      case tkh46 => (simp only [List.getElem?_toArray, List.getElem?_cons_succ, List.getElem?_cons_zero]; rfl)
      case tkq46 => exact fun _ _ _ h => h
      case tky46 => exact Or.inl ⟨by rfl, by intro wSw hSw; (try dsimp only at hSw); go_simp; try with_reducible rfl⟩
      try simp only [Act.put, List.setIfInBounds_toArray, List.set_cons_zero, List.set_cons_succ]
      refine Skips.skips (by kernel_rfl) (fun _ _ _ _ _ h => h) hHeld [9, 10, 11, 12, 13, 14, 15, 16, 17, 18] _ 10 _ _ (by kernel_rfl) ?tkk47 ?tkr47
      case tkk47 => kernel_rfl
      simp only [Skips.skipAct, Skips.skipListed, List.getElem?_toArray, List.getElem?_cons_succ, List.getElem?_cons_zero, Act.put, List.setIfInBounds_toArray, List.set_cons_zero, List.set_cons_succ]
      refine wpAnyH_take (i := 19) (oi := ?tko48) (v := ?tkv48) ?tkh48 (by kernel_rfl) (by kernel_rfl) (by kernel_rfl) ?tkq48 ?tky48 hHeld ?tkr48
      case tkh48 => (simp only [List.getElem?_toArray, List.getElem?_cons_succ, List.getElem?_cons_zero]; rfl)
      case tkq48 => exact fun _ _ _ h => h
      case tky48 => exact Or.inl ⟨by rfl, by intro wSw hSw; (try dsimp only at hSw); go_simp; try with_reducible rfl⟩
      try simp only [Act.put, List.setIfInBounds_toArray, List.set_cons_zero, List.set_cons_succ]
      refine wpAnyH_take (i := 20) (oi := ?tko49) (v := ?tkv49) ?tkh49 (by kernel_rfl) (by kernel_rfl) (by kernel_rfl) ?tkq49 ?tky49 hHeld ?tkr49
      case tkh49 => (simp only [List.getElem?_toArray, List.getElem?_cons_succ, List.getElem?_cons_zero]; rfl)
      case tkq49 => exact fun _ _ _ h => h
      case tky49 => exact Or.inl ⟨by rfl, by intro wSw hSw; (try dsimp only at hSw); go_simp; try with_reducible rfl⟩
      try simp only [Act.put, List.setIfInBounds_toArray, List.set_cons_zero, List.set_cons_succ]
      refine wpAnyH_take (i := 21) (oi := ?tko50) (v := ?tkv50) ?tkh50 (by kernel_rfl) (by kernel_rfl) (by kernel_rfl) ?tkq50 ?tky50 hHeld ?tkr50
      case tkh50 => (simp only [List.getElem?_toArray, List.getElem?_cons_succ, List.getElem?_cons_zero]; rfl)
      case tkq50 => exact fun _ _ _ h => h
      case tky50 => exact Or.inl ⟨by rfl, by intro wSw hSw; (try dsimp only at hSw); go_simp; try with_reducible rfl⟩
      try simp only [Act.put, List.setIfInBounds_toArray, List.set_cons_zero, List.set_cons_succ]
      refine wpAnyH_take (i := 22) (oi := ?tko51) (v := ?tkv51) ?tkh51 (by kernel_rfl) (by kernel_rfl) (by kernel_rfl) ?tkq51 ?tky51 hHeld ?tkr51
      case tkh51 => (simp only [List.getElem?_toArray, List.getElem?_cons_succ, List.getElem?_cons_zero]; rfl)
      case tkq51 => exact fun _ _ _ h => h
      case tky51 => exact Or.inl ⟨by rfl, by intro wSw hSw; (try dsimp only at hSw); go_simp; try with_reducible rfl⟩
      try simp only [Act.put, List.setIfInBounds_toArray, List.set_cons_zero, List.set_cons_succ]
      refine wpAnyH_take (i := 23) (oi := ?tko52) (v := ?tkv52) ?tkh52 (by kernel_rfl) (by kernel_rfl) (by kernel_rfl) ?tkq52 ?tky52 hHeld ?tkr52
      case tkh52 => (simp only [List.getElem?_toArray, List.getElem?_cons_succ, List.getElem?_cons_zero]; rfl)
      case tkq52 => exact fun _ _ _ h => h
      case tky52 => exact Or.inl ⟨by rfl, by intro wSw hSw; (try dsimp only at hSw); go_simp; try with_reducible rfl⟩
      try simp only [Act.put, List.setIfInBounds_toArray, List.set_cons_zero, List.set_cons_succ]
      refine wpAnyH_take (i := 24) (oi := ?tko53) (v := ?tkv53) ?tkh53 (by kernel_rfl) (by kernel_rfl) (by kernel_rfl) ?tkq53 ?tky53 hHeld ?tkr53
      case tkh53 => (simp only [List.getElem?_toArray, List.getElem?_cons_succ, List.getElem?_cons_zero]; rfl)
      case tkq53 => exact fun _ _ _ h => h
      case tky53 => exact Or.inl ⟨by rfl, by intro wSw hSw; (try dsimp only at hSw); go_simp; try with_reducible rfl⟩
      try simp only [Act.put, List.setIfInBounds_toArray, List.set_cons_zero, List.set_cons_succ]
      refine wpAnyH_take (i := 25) (oi := ?tko54) (v := ?tkv54) ?tkh54 (by kernel_rfl) (by kernel_rfl) (by kernel_rfl) ?tkq54 ?tky54 hHeld ?tkr54
      case tkh54 => (simp only [List.getElem?_toArray, List.getElem?_cons_succ, List.getElem?_cons_zero]; rfl)
      case tkq54 => exact fun _ _ _ h => h
      case tky54 => exact Or.inl ⟨by rfl, by intro wSw hSw; (try dsimp only at hSw); go_simp; try with_reducible rfl⟩
      try simp only [Act.put, List.setIfInBounds_toArray, List.set_cons_zero, List.set_cons_succ]
      refine wpAnyH_take (i := 26) (oi := ?tko55) (v := ?tkv55) ?tkh55 (by kernel_rfl) (by kernel_rfl) (by kernel_rfl) ?tkq55 ?tky55 hHeld ?tkr55
      case tkh55 => (simp only [List.getElem?_toArray, List.getElem?_cons_succ, List.getElem?_cons_zero]; rfl)
      case tkq55 => exact fun _ _ _ h => h
      case tky55 => exact Or.inl ⟨by rfl, by intro wSw hSw; (try dsimp only at hSw); go_simp; try with_reducible rfl⟩
      try simp only [Act.put, List.setIfInBounds_toArray, List.set_cons_zero, List.set_cons_succ]
      refine wpAnyH_take (i := 27) (oi := ?tko56) (v := ?tkv56) ?tkh56 (by kernel_rfl) (by kernel_rfl) (by kernel_rfl) ?tkq56 ?tky56 hHeld ?tkr56
      case tkh56 => (simp only [List.getElem?_toArray, List.getElem?_cons_succ, List.getElem?_cons_zero]; rfl)
      case tkq56 => exact fun _ _ _ h => h
      case tky56 => exact Or.inl ⟨by rfl, by intro wSw hSw; (try dsimp only at hSw); go_simp; try with_reducible rfl⟩
      try simp only [Act.put, List.setIfInBounds_toArray, List.set_cons_zero, List.set_cons_succ]
      refine wpAnyH_take (i := 28) (oi := ?tko57) (v := ?tkv57) ?tkh57 (by kernel_rfl) (by kernel_rfl) (by kernel_rfl) ?tkq57 ?tky57 hHeld ?tkr57
      case tkh57 => (simp only [List.getElem?_toArray, List.getElem?_cons_succ, List.getElem?_cons_zero]; rfl)
      case tkq57 => exact fun _ _ _ h => h
      case tky57 => exact Or.inl ⟨by rfl, by intro wSw hSw; (try dsimp only at hSw); go_simp; try with_reducible rfl⟩
      try simp only [Act.put, List.setIfInBounds_toArray, List.set_cons_zero, List.set_cons_succ]
      refine wpAnyH_done (by kernel_rfl) ?_ _
      clear hHeld
      go_wp2_with fail
      go_roundw
      case rel => exact ⟨k + 1, s', _, by omega, by go_num, HS15.out.1.less (fun q hq => False.elim hq) (Nat.le_refl _), HOK1.out, hdl1, hdl2, by omega, (HBR1.out.trans (HDR.out.mono HBR1.out.size)).trans HS15.out.2.2⟩
      case measure => simp [intOf]; omega
    | some j =>
      have HI2 := Lib.hid (show Calls Tryz.prog 24 #[.pointer (some ⟨gp, 0, none⟩), .int .i64 y] w12 fun e w' => e = .returned (.tuple #[.int .i64 (j : Nat), .bool true]) ∧ Step L zs f (fun q => False ∨ q = g0) w12 w' gp gr w.heap.size _ s' s' from by have h := HI.out; rw [ho] at h; exact h)
      clear HI
      go_wp2_with fail
      refine HI2.out.mono ?_
      rintro e w13 ⟨rfl, hs13⟩
      have hx13 := HX12.out.same hs13.2.2.size (hs13.2.1 _ (.inr rfl))
      have HS13 := Lib.hid (HS12.out.trans hs13 (fun q hq => hq))
      have x0 := hx13.cell 0 rfl
      have x1 := hx13.cell 1 rfl
      have x2 := hx13.cell 2 rfl
      have hdr := (Below.refl w13.heap.size w13).drew
      have HS15 := Lib.hid (HS13.out.below C hdr)
      have hrp := HS15.out.1.rp
      obtain ⟨w15, hw15⟩ : ∃ w15, w13.drew = w15 := ⟨_, rfl⟩
      rw [hw15] at HS15 hrp
      obtain ⟨D15, hr15⟩ := hrp
      have HH := Lib.hid (refHas w15 gr D15 s' hr15 y hy64)
      rw [ho] at HH
      obtain ⟨i, g1, c1, g2, c2, ats, rfl, ha⟩ := hr15.head ho
      have a5 := ha.x5
      have a2 := ha.y2
      have hlti : (i : Int) < (s'.hs.length : Int) := by have := ha.lt; omega
      have hlei := ha.c2le
      clear hs13 hx13 hdr hr15 ha
      go_wp2_with fail
      refine wp_region_held_drew (S := fun W => (W.cell? ⟨g0, 0, none⟩ = some (.int .u8 x) ∧ W.cell? ⟨g0, 1, none⟩ = some (.int .i64 (i : Int)) ∧ W.cell? ⟨g0, 2, none⟩ = some (.int .i64 z)) ∧ W.cell? ⟨gr, 5, none⟩ = some (.slice (some ⟨g2, 0, none⟩) s'.hs.length c2) ∧ W.cell? ⟨g2, i, none⟩ = some (.int .i64 (j : Int))) (by kernel_rfl) (by rw [hw15]; rw [← hw15]; exact ⟨⟨x0, x1, x2⟩, by rw [hw15]; exact a5, by rw [hw15]; exact a2⟩) (fun hHeld => ?_)
      rw [hw15] at hHeld ⊢
      clear hw15 x0 x1 x2 a5 a2
      refine wpAnyH_take (i := 0) (oi := ?tko58) (v := ?tkv58) ?tkh58 (by kernel_rfl) (by kernel_rfl) (by kernel_rfl) ?tkq58 ?tky58 hHeld ?tkr58
      case tkh58 => (simp only [List.getElem?_toArray, List.getElem?_cons_zero]; rfl)
      case tkq58 => exact fun _ _ _ h => h
      case tky58 => exact Or.inl ⟨by rfl, by intro wSw hSw; (try dsimp only at hSw); go_simp; try with_reducible rfl⟩
      try simp only [Act.put, List.setIfInBounds_toArray, List.set_cons_zero, List.set_cons_succ]
      refine wpAnyH_take (i := 1) (oi := ?tko59) (v := ?tkv59) ?tkh59 (by kernel_rfl) (by kernel_rfl) (by kernel_rfl) ?tkq59 ?tky59 hHeld ?tkr59
      case tkh59 => (simp only [List.getElem?_toArray, List.getElem?_cons_succ, List.getElem?_cons_zero]; rfl)
      case tkq59 => exact fun _ _ _ h => h
      case tky59 => exact Or.inl ⟨by rfl, by intro wSw hSw; (try dsimp only at hSw); go_simp; try with_reducible rfl⟩
      try simp only [Act.put, List.setIfInBounds_toArray, List.set_cons_zero, List.set_cons_succ]
      refine wpAnyH_take (i := 2) (oi := ?tko60) (v := ?tkv60) ?tkh60 (by kernel_rfl) (by kernel_rfl) (by kernel_rfl) ?tkq60 ?tky60 hHeld ?tkr60
      case tkh60 => (simp only [List.getElem?_toArray, List.getElem?_cons_succ, List.getElem?_cons_zero]; rfl)
      case tkq60 => exact fun _ _ _ h => h
      case tky60 => exact Or.inl ⟨by rfl, by intro wSw hSw; (try dsimp only at hSw); go_simp; try with_reducible rfl⟩
      try simp only [Act.put, List.setIfInBounds_toArray, List.set_cons_zero, List.set_cons_succ]
      refine wpAnyH_take (i := 3) (oi := ?tko61) (v := ?tkv61) ?tkh61 (by kernel_rfl) (by kernel_rfl) (by kernel_rfl) ?tkq61 ?tky61 hHeld ?tkr61
      case tkh61 => (simp only [List.getElem?_toArray, List.getElem?_cons_succ, List.getElem?_cons_zero]; rfl)
      case tkq61 => exact fun _ _ _ h => h
      case tky61 => exact Or.inl ⟨by rfl, by intro wSw hSw; (try dsimp only at hSw); go_simp; try with_reducible rfl⟩
      try simp only [Act.put, List.setIfInBounds_toArray, List.set_cons_zero, List.set_cons_succ]
      refine wpAnyH_ready (rs := [4]) (by kernel_rfl) (by simp) ?_
      refine AllReadyH.cons (o := ?tko62) ?tkh62 (fun Kt62 hKt62 => ?_) AllReadyH.nil
      case tkh62 => (simp only [List.getElem?_toArray, List.getElem?_cons_succ, List.getElem?_cons_zero]; rfl)
      go_simp
      (refine HH.out.mono ?_; rintro e w16 ⟨rfl, rfl⟩)
      refine hKt62.out _ _ ?_ (fun hHt62 => ?_)
      · (exact hHeld)
      clear hKt62 Kt62 hHeld
      have hHeld := hHt62
      clear hHt62
      try simp only [Act.put, List.setIfInBounds_toArray, List.set_cons_zero, List.set_cons_succ]
      refine wpAnyH_take (i := 5) (oi := ?tko63) (v := ?tkv63) ?tkh63 (by kernel_rfl) (by kernel_rfl) (by kernel_rfl) ?tkq63 ?tky63 hHeld ?tkr63
      case tkh63 => (simp only [List.getElem?_toArray, List.getElem?_cons_succ, List.getElem?_cons_zero]; rfl)
      case tkq63 => exact fun _ _ _ h => h
      case tky63 => exact Or.inl ⟨by rfl, by intro wSw hSw; (try dsimp only at hSw); go_simp; try with_reducible rfl⟩
      try simp only [Act.put, List.setIfInBounds_toArray, List.set_cons_zero, List.set_cons_succ]
      refine wpAnyH_take (i := 6) (oi := ?tko64) (v := ?tkv64) ?tkh64 (by kernel_rfl) (by kernel_rfl) (by kernel_rfl) ?tkq64 ?tky64 hHeld ?tkr64
      case tkh64 => (simp only [List.getElem?_toArray, List.getElem?_cons_succ, List.getElem?_cons_zero]; rfl)
      case tkq64 => exact fun _ _ _ h => h
      case tky64 => exact Or.inl ⟨by rfl, by intro wSw hSw; (try dsimp only at hSw); go_simp; try with_reducible rfl⟩
      try simp only [Act.put, List.setIfInBounds_toArray, List.set_cons_zero, List.set_cons_succ]
      refine wpAnyH_take (i := 7) (oi := ?tko65) (v := ?tkv65) ?tkh65 (by kernel_rfl) (by kernel_rfl) (by kernel_rfl) ?tkq65 ?tky65 hHeld ?tkr65
      case tkh65 => (simp only [List.getElem?_toArray, List.getElem?_cons_succ, List.getElem?_cons_zero]; rfl)
      case tkq65 => exact fun _ _ _ h => h
      case tky65 => exact Or.inl ⟨by rfl, by intro wSw hSw; (try dsimp only at hSw); go_simp; try with_reducible rfl⟩
      try simp only [Act.put, List.setIfInBounds_toArray, List.set_cons_zero, List.set_cons_succ]
      refine wpAnyH_take (i := 8) (oi := ?tko66) (v := ?tkv66) ?tkh66 (by kernel_rfl) (by kernel_rfl) (by kernel_rfl) ?tkq66 ?tky66 hHeld ?tkr66
      case tkh66 => (simp only [List.getElem?_toArray, List.getElem?_cons_succ, List.getElem?_cons_zero]; rfl)
      case tkq66 => exact fun _ _ _ h => h
      case tky66 => exact Or.inl ⟨by rfl, by intro wSw hSw; (try dsimp only at hSw); go_simp; try with_reducible rfl⟩
      try simp only [Act.put, List.setIfInBounds_toArray, List.set_cons_zero, List.set_cons_succ]
      refine wpAnyH_take (i := 9) (oi := ?tko67) (v := ?tkv67) ?tkh67 (by kernel_rfl) (by kernel_rfl) (by kernel_rfl) ?tkq67 ?tky67 hHeld ?tkr67
      case tkh67 => (simp only [List.getElem?_toArray, List.getElem?_cons_succ, List.getElem?_cons_zero]; rfl)
      case tkq67 => exact fun _ _ _ h => h
      case tky67 => exact Or.inl ⟨by rfl, by intro wSw hSw; (try dsimp only at hSw); go_simp; try with_reducible rfl⟩
      try simp only [Act.put, List.setIfInBounds_toArray, List.set_cons_zero, List.set_cons_succ]
      refine wpAnyH_take (i := 10) (oi := ?tko68) (v := ?tkv68) ?tkh68 (by kernel_rfl) (by kernel_rfl) (by kernel_rfl) ?tkq68 ?tky68 hHeld ?tkr68
      case tkh68 => (simp only [List.getElem?_toArray, List.getElem?_cons_succ, List.getElem?_cons_zero]; rfl)
      case tkq68 => exact fun _ _ _ h => h
      case tky68 => exact Or.inl ⟨by rfl, by intro wSw hSw; (try dsimp only at hSw); go_simp; try with_reducible rfl⟩
      try simp only [Act.put, List.setIfInBounds_toArray, List.set_cons_zero, List.set_cons_succ]
      refine wpAnyH_take (i := 11) (oi := ?tko69) (v := ?tkv69) ?tkh69 (by kernel_rfl) (by kernel_rfl) (by kernel_rfl) ?tkq69 ?tky69 hHeld ?tkr69
      case tkh69 => (simp only [List.getElem?_toArray, List.getElem?_cons_succ, List.getElem?_cons_zero]; rfl)
      case tkq69 => exact fun _ _ _ h => h
      case tky69 => exact Or.inl ⟨by rfl, by intro wSw hSw; (try dsimp only at hSw); go_simp; try with_reducible rfl⟩
      try simp only [Act.put, List.setIfInBounds_toArray, List.set_cons_zero, List.set_cons_succ]
      refine wpAnyH_take (i := 12) (oi := ?tko70) (v := ?tkv70) ?tkh70 (by kernel_rfl) (by kernel_rfl) (by kernel_rfl) ?tkq70 ?tky70 hHeld ?tkr70
      case tkh70 => (simp only [List.getElem?_toArray, List.getElem?_cons_succ, List.getElem?_cons_zero]; rfl)
      case tkq70 => exact fun _ _ _ h => h
      case tky70 => exact Or.inl ⟨by rfl, by intro wSw hSw; (try dsimp only at hSw); go_simp; try with_reducible rfl⟩
      try simp only [Act.put, List.setIfInBounds_toArray, List.set_cons_zero, List.set_cons_succ]
      refine wpAnyH_take (i := 13) (oi := ?tko71) (v := ?tkv71) ?tkh71 (by kernel_rfl) (by kernel_rfl) (by kernel_rfl) ?tkq71 ?tky71 hHeld ?tkr71
      case tkh71 => (simp only [List.getElem?_toArray, List.getElem?_cons_succ, List.getElem?_cons_zero]; rfl)
      case tkq71 => exact fun _ _ _ h => h
      case tky71 => exact Or.inl ⟨by rfl, by intro wSw hSw; (try dsimp only at hSw); go_simp; try with_reducible rfl⟩
      try simp only [Act.put, List.setIfInBounds_toArray, List.set_cons_zero, List.set_cons_succ]
      refine wpAnyH_take (i := 14) (oi := ?tko72) (v := ?tkv72) ?tkh72 (by kernel_rfl) (by kernel_rfl) (by kernel_rfl) ?tkq72 ?tky72 hHeld ?tkr72
      case tkh72 => (simp only [List.getElem?_toArray, List.getElem?_cons_succ, List.getElem?_cons_zero]; rfl)
      case tkq72 => exact fun _ _ _ h => h
      case tky72 => exact Or.inl ⟨by rfl, by intro wSw hSw; (try dsimp only at hSw); go_simp; try with_reducible rfl⟩
      try simp only [Act.put, List.setIfInBounds_toArray, List.set_cons_zero, List.set_cons_succ]
      refine wpAnyH_take (i := 15) (oi := ?tko73) (v := ?tkv73) ?tkh73 (by kernel_rfl) (by kernel_rfl) (by kernel_rfl) ?tkq73 ?tky73 hHeld ?tkr73
      case tkh73 => (simp only [List.getElem?_toArray, List.getElem?_cons_succ, List.getElem?_cons_zero]; rfl)
      case tkq73 => exact fun _ _ _ h => h
      case tky73 => exact Or.inl ⟨by rfl, by intro wSw hSw; (try dsimp only at hSw); go_simp; try with_reducible rfl⟩
      try simp only [Act.put, List.setIfInBounds_toArray, List.set_cons_zero, List.set_cons_succ]
      refine wpAnyH_take (i := 16) (oi := ?tko74) (v := ?tkv74) ?tkh74 (by kernel_rfl) (by kernel_rfl) (by kernel_rfl) ?tkq74 ?tky74 hHeld ?tkr74
      case tkh74 => (simp only [List.getElem?_toArray, List.getElem?_cons_succ, List.getElem?_cons_zero]; rfl)
      case tkq74 => exact fun _ _ _ h => h
      case tky74 => exact Or.inl ⟨by rfl, by intro wSw hSw; (try dsimp only at hSw); go_simp; try with_reducible rfl⟩
      try simp only [Act.put, List.setIfInBounds_toArray, List.set_cons_zero, List.set_cons_succ]
      refine wpAnyH_take (i := 17) (oi := ?tko75) (v := ?tkv75) ?tkh75 (by kernel_rfl) (by kernel_rfl) (by kernel_rfl) ?tkq75 ?tky75 hHeld ?tkr75
      case tkh75 => (simp only [List.getElem?_toArray, List.getElem?_cons_succ, List.getElem?_cons_zero]; rfl)
      case tkq75 => exact fun _ _ _ h => h
      case tky75 => exact Or.inl ⟨by rfl, by intro wSw hSw; (try dsimp only at hSw); go_simp; try with_reducible rfl⟩
      try simp only [Act.put, List.setIfInBounds_toArray, List.set_cons_zero, List.set_cons_succ]
      refine wpAnyH_take (i := 18) (oi := ?tko76) (v := ?tkv76) ?tkh76 (by kernel_rfl) (by kernel_rfl) (by kernel_rfl) ?tkq76 ?tky76 hHeld ?tkr76
      case tkh76 => (simp only [List.getElem?_toArray, List.getElem?_cons_succ, List.getElem?_cons_zero]; rfl)
      case tkq76 => exact fun _ _ _ h => h
      case tky76 => exact Or.inl ⟨by rfl, by intro wSw hSw; (try dsimp only at hSw); go_simp; try with_reducible rfl⟩
      try simp only [Act.put, List.setIfInBounds_toArray, List.set_cons_zero, List.set_cons_succ]
      refine wpAnyH_take (i := 19) (oi := ?tko77) (v := ?tkv77) ?tkh77 (by kernel_rfl) (by kernel_rfl) (by kernel_rfl) ?tkq77 ?tky77 hHeld ?tkr77
      case tkh77 => (simp only [List.getElem?_toArray, List.getElem?_cons_succ, List.getElem?_cons_zero]; rfl)
      case tkq77 => exact fun _ _ _ h => h
      case tky77 => exact Or.inl ⟨by rfl, by intro wSw hSw; (try dsimp only at hSw); go_simp; try with_reducible rfl⟩
      try simp only [Act.put, List.setIfInBounds_toArray, List.set_cons_zero, List.set_cons_succ]
      refine wpAnyH_take (i := 20) (oi := ?tko78) (v := ?tkv78) ?tkh78 (by kernel_rfl) (by kernel_rfl) (by kernel_rfl) ?tkq78 ?tky78 hHeld ?tkr78
      case tkh78 => (simp only [List.getElem?_toArray, List.getElem?_cons_succ, List.getElem?_cons_zero]; rfl)
      case tkq78 => exact fun _ _ _ h => h
      case tky78 => exact Or.inl ⟨by rfl, by intro wSw hSw; (try dsimp only at hSw); go_simp; try with_reducible rfl⟩
      try simp only [Act.put, List.setIfInBounds_toArray, List.set_cons_zero, List.set_cons_succ]
      refine wpAnyH_take (i := 21) (oi := ?tko79) (v := ?tkv79) ?tkh79 (by kernel_rfl) (by kernel_rfl) (by kernel_rfl) ?tkq79 ?tky79 hHeld ?tkr79
      case tkh79 => (simp only [List.getElem?_toArray, List.getElem?_cons_succ, List.getElem?_cons_zero]; rfl)
      case tkq79 => exact fun _ _ _ h => h
      case tky79 => exact Or.inl ⟨by rfl, by intro wSw hSw; (try dsimp only at hSw); go_simp; try with_reducible rfl⟩
      try simp only [Act.put, List.setIfInBounds_toArray, List.set_cons_zero, List.set_cons_succ]
      refine wpAnyH_take (i := 22) (oi := ?tko80) (v := ?tkv80) ?tkh80 (by kernel_rfl) (by kernel_rfl) (by kernel_rfl) ?tkq80 ?tky80 hHeld ?tkr80
      case tkh80 => (simp only [List.getElem?_toArray, List.getElem?_cons_succ, List.getElem?_cons_zero]; rfl)
      case tkq80 => exact fun _ _ _ h => h
      case tky80 => exact Or.inl ⟨by rfl, by intro wSw hSw; (try dsimp only at hSw); go_simp; try with_reducible rfl⟩
      try simp only [Act.put, List.setIfInBounds_toArray, List.set_cons_zero, List.set_cons_succ]
      refine wpAnyH_take (i := 23) (oi := ?tko81) (v := ?tkv81) ?tkh81 (by kernel_rfl) (by kernel_rfl) (by kernel_rfl) ?tkq81 ?tky81 hHeld ?tkr81
      case tkh81 => (simp only [List.getElem?_toArray, List.getElem?_cons_succ, List.getElem?_cons_zero]; rfl)
      case tkq81 => exact fun _ _ _ h => h
      case tky81 => exact Or.inl ⟨by rfl, by intro wSw hSw; (try dsimp only at hSw); go_simp; try with_reducible rfl⟩
      try simp only [Act.put, List.setIfInBounds_toArray, List.set_cons_zero, List.set_cons_succ]
      refine wpAnyH_take (i := 24) (oi := ?tko82) (v := ?tkv82) ?tkh82 (by kernel_rfl) (by kernel_rfl) (by kernel_rfl) ?tkq82 ?tky82 hHeld ?tkr82
      case tkh82 => (simp only [List.getElem?_toArray, List.getElem?_cons_succ, List.getElem?_cons_zero]; rfl)
      case tkq82 => exact fun _ _ _ h => h
      case tky82 => exact Or.inl ⟨by rfl, by intro wSw hSw; (try dsimp only at hSw); go_simp; try with_reducible rfl⟩
      try simp only [Act.put, List.setIfInBounds_toArray, List.set_cons_zero, List.set_cons_succ]
      refine Skips.skips (by kernel_rfl) (fun _ _ _ _ _ h => h) hHeld [25, 26] _ 2 _ _ (by kernel_rfl) ?tkk83 ?tkr83
      case tkk83 => kernel_rfl
      simp only [Skips.skipAct, Skips.skipListed, List.getElem?_toArray, List.getElem?_cons_succ, List.getElem?_cons_zero, Act.put, List.setIfInBounds_toArray, List.set_cons_zero, List.set_cons_succ]
      refine wpAnyH_take (i := 27) (oi := ?tko84) (v := ?tkv84) ?tkh84 (by kernel_rfl) (by kernel_rfl) (by kernel_rfl) ?tkq84 ?tky84 hHeld ?tkr84
      case tkh84 => (simp only [List.getElem?_toArray, List.getElem?_cons_succ, List.getElem?_cons_zero]; rfl)
      case tkq84 => exact fun _ _ _ h => h
      case tky84 => exact Or.inl ⟨by rfl, by intro wSw hSw; (try dsimp only at hSw); go_simp; try with_reducible rfl⟩
      try simp only [Act.put, List.setIfInBounds_toArray, List.set_cons_zero, List.set_cons_succ]
      refine wpAnyH_take (i := 28) (oi := ?tko85) (v := ?tkv85) ?tkh85 (by kernel_rfl) (by kernel_rfl) (by kernel_rfl) ?tkq85 ?tky85 hHeld ?tkr85
      case tkh85 => (simp only [List.getElem?_toArray, List.getElem?_cons_succ, List.getElem?_cons_zero]; rfl)
      case tkq85 => exact fun _ _ _ h => h
      case tky85 => exact Or.inl ⟨by rfl, by intro wSw hSw; (try dsimp only at hSw); go_simp; try with_reducible rfl⟩
      try simp only [Act.put, List.setIfInBounds_toArray, List.set_cons_zero, List.set_cons_succ]
      refine wpAnyH_done (by kernel_rfl) ?_ _
      clear hHeld
      go_wp2_with fail
      go_roundw
      case rel => exact ⟨k + 1, s', _, by omega, by go_num, HS15.out.1.less (fun q hq => False.elim hq) (Nat.le_refl _), HOK1.out, hdl1, hdl2, by omega, (HBR1.out.trans (HDR.out.mono HBR1.out.size)).trans HS15.out.2.2⟩
      case measure => simp [intOf]; omega
end Go.Proofs.YtimbbfneaaglbaaGreat.Heads
