/-
  The walks of the reference's headless and NewPool (stage 13). By an AI agent.
  What a landed pool of heads is to keep (stage 13): the contracts of its functions, over a predicate that is not told here; a landed pool and the reference's beside one another. By an AI agent.
-/
import Derived.Test.YtimbbfneaaglbaaGreatGHeadsPlays22
import Derived.Test.YtimbbfneaaglbaaGreatGHeadsPlays7
import Derived.Test.YtimbbfneaaglbaaGreatGHeadsPlays14
namespace Go.Proofs.YtimbbfneaaglbaaGreat.Heads
open Go.RowKit Go.Proofs.YtimbbfneaaglbaaGreat.Ints Go.Proofs.YtimbbfneaaglbaaGreat.Mem Go.Proofs.YtimbbfneaaglbaaGreat.SumMath Go.Proofs.YtimbbfneaaglbaaGreat.Trace Go.Proofs.YtimbbfneaaglbaaGreat.Record Go.Proofs.YtimbbfneaaglbaaGreat.Log Go.Proofs.YtimbbfneaaglbaaGreat.Src Go.Proofs.YtimbbfneaaglbaaGreat.Scan

/-- What is wrong with the header of bytes that can be read up to a place. -/
def headE (b : List Int) (f : Nat) : Nat := (headF b f).2.2
theorem faultN {n : Nat} {fault : Int} (h : fault < 0) : faultP n fault = n := by unfold faultP; rw [if_pos (.inl h)]
theorem faultW {n : Nat} {fault : Int} (h : (n : Int) ≤ fault) : faultP n fault = n := by unfold faultP; split <;> omega
theorem faultI {n f : Nat} (h : f < n) : faultP n (f : Int) = f := by unfold faultP; split <;> omega

set_option maxHeartbeats 4000000 in
set_option maxRecDepth 100000 in
theorem refHeadless (A : Option Addr) (n c : Nat) (zs : List Int) (w : World) (hnc : n ≤ c) (hc : c ≤ maxLen) (h : Rd .u8 w A n zs) (fault : Int) :
    Calls Tryz.prog 43 #[.slice A n c, .int .i64 fault] w fun e w' => e = .returned (.bool (decide (headE zs (faultP n fault) ≠ 0))) ∧ Below w.heap.size w w' := by
  have q63 : maxLen = 9223372036854775807 := rfl
  have hl := h.len
  have hdec : ∀ er : Nat, (!((er : Int) == 0)) = decide (er ≠ 0) := fun er => by cases er <;> simp <;> omega
  by_cases h1 : fault < 0
  · have HE := Lib.hid (show headE zs (faultP n fault) = (headD zs 5).2.2 by rw [faultN h1]; unfold headE headF; rw [List.take_of_length_le (by omega), if_neg (by omega)])
    have HF := Lib.hid (refHead0 A n c zs w hnc hc h)
    have g1 : ¬ (fault ≥ 0) := by omega
    clear h hl
    go_enter Tryz.func43, Tryz.ntmps43
    go_wp2_with fail
    refine HF.out.mono ?_
    rintro e w1 ⟨A1, c1, rfl, -, hB⟩
    have HB := Lib.hid hB
    clear hB
    go_wp2_with fail
    go_ret
    rw [HE.out]
    exact ⟨by rw [← hdec]; rfl, HB.out⟩
  by_cases h2 : (n : Int) ≤ fault
  · have HE := Lib.hid (show headE zs (faultP n fault) = (headD zs 5).2.2 by rw [faultW h2]; unfold headE headF; rw [List.take_of_length_le (by omega), if_neg (by omega)])
    have HF := Lib.hid (refHead0 A n c zs w hnc hc h)
    have g1 : fault ≥ 0 := by omega
    have g2 : ¬ (fault < (n : Int)) := by omega
    clear h hl
    go_enter Tryz.func43, Tryz.ntmps43
    go_wp2_with fail
    refine HF.out.mono ?_
    rintro e w1 ⟨A1, c1, rfl, -, hB⟩
    have HB := Lib.hid hB
    clear hB
    go_wp2_with fail
    go_ret
    rw [HE.out]
    exact ⟨by rw [← hdec]; rfl, HB.out⟩
  obtain ⟨f, rfl⟩ : ∃ f : Nat, fault = (f : Int) := ⟨fault.toNat, by omega⟩
  have HE := Lib.hid (show headE zs (faultP n (f : Int)) = (headD (zs.take f) 10).2.2 by rw [faultI (by omega)]; unfold headE headF; rw [if_pos (by omega)])
  have HF := Lib.hid (refHead1 A f c (zs.take f) w (by omega) hc (h.take (by omega)))
  have g2 : (f : Int) < (n : Int) := by omega
  have g3 : (f : Int) ≤ (c : Int) := by omega
  have hslu := slice_upto (P := Tryz.prog) 28 (by kernel_rfl) 1 (by kernel_rfl) A n c f (by omega)
  clear h hl
  go_enter Tryz.func43, Tryz.ntmps43
  go_wp2_with fail
  refine HF.out.mono ?_
  rintro e w1 ⟨A1, c1, rfl, -, hB⟩
  have HB := Lib.hid hB
  clear hB
  go_wp2_with fail
  go_ret
  rw [HE.out]
  exact ⟨by rw [← hdec]; rfl, HB.out⟩

/-! ### what may be wrong -/
theorem errR_which (b : List Int) (p : Int) : errR b p = 0 ∨ errR b p = 13 ∨ errR b p = 7 ∨ errR b p = 2 ∨ errR b p = 6 ∨ errR b p = 9 := by
  unfold errR sizeE
  repeat' split
  all_goals simp_all
theorem recs_which (b : List Int) (props : Int) : ∀ (fuel p : Nat) (last : Int) (es : List Ev), (∀ e ∈ es, e.ids.length ≤ 64) →
    ((recsD b props fuel p last es).2 = 13 ∨ (recsD b props fuel p last es).2 = 7 ∨ (recsD b props fuel p last es).2 = 2 ∨ (recsD b props fuel p last es).2 = 6 ∨ (recsD b props fuel p last es).2 = 9 ∨ (recsD b props fuel p last es).2 = 8) ∧ ∀ e ∈ (recsD b props fuel p last es).1, e.ids.length ≤ 64 := by
  intro fuel
  induction fuel with
  | zero => intro p last es h; exact ⟨.inl rfl, h⟩
  | succ fuel ih =>
    intro p last es h
    by_cases h0 : errR (b.drop p) (propsR props) = 0
    · by_cases h2 : (evR (b.drop p)).time < last
      · rw [recsD_time fuel h0 h2]
        exact ⟨.inr (.inr (.inr (.inr (.inr rfl)))), h⟩
      · rw [recsD_next fuel h0 h2]
        refine ih _ _ _ (fun e he => ?_)
        rcases List.mem_append.1 he with h3 | h3
        · exact h e h3
        · rw [List.mem_singleton.1 h3]
          have h4 := (err_zero h0).2.2
          have h5 := ids_count (ids_wide (props_bd props).2 h4)
          omega
    · rw [recsD_err fuel rfl h0]
      refine ⟨?_, h⟩
      rcases errR_which (b.drop p) (propsR props) with e | e | e | e | e | e
      · exact absurd e h0
      · exact .inl e
      · exact .inr (.inl e)
      · exact .inr (.inr (.inl e))
      · exact .inr (.inr (.inr (.inl e)))
      · exact .inr (.inr (.inr (.inr (.inl e))))
theorem namesD_which (x : List Int) (m : Nat) : ∀ (c p : Nat) (acc : List (List UInt8)), (namesD x m c p acc).2.2 = 0 ∨ (namesD x m c p acc).2.2 = 5 ∨ (namesD x m c p acc).2.2 = m := by
  intro c
  induction c with
  | zero => intro p acc; exact .inl rfl
  | succ c ih =>
    intro p acc
    rw [namesD]
    split
    · exact .inr (.inr rfl)
    · split
      · exact .inr (.inl rfl)
      · split
        · exact .inr (.inr rfl)
        · split
          · exact .inr (.inl rfl)
          · exact ih _ _
theorem headD_which (x : List Int) (m : Nat) : (headD x m).2.2 = 0 ∨ (headD x m).2.2 = 5 ∨ (headD x m).2.2 = m := by
  unfold headD
  split
  · exact .inr (.inr rfl)
  · split
    · exact .inr (.inl rfl)
    · have h := namesD_which x m (byteAt x 4) 5 []
      unfold lastD
      split
      · exact h
      · split
        · exact .inr (.inr rfl)
        · split
          · exact .inr (.inl rfl)
          · exact .inl rfl
/-- A header that is wrong. -/
theorem recs_bad {b : List Int} {f : Nat} (hf : f ≤ b.length) (h : headE b f ≠ 0) : recordsF b f = (noTr, headE b f) ∧ (headE b f = 5 ∨ headE b f = 10) := by
  have hE : headE b f = (headD (b.take f) (if f < b.length then 10 else 5)).2.2 := rfl
  by_cases h1 : f < b.length
  · rw [if_pos h1] at hE
    rw [hE] at h ⊢
    refine ⟨?_, ?_⟩
    · unfold recordsF recordsC
      rw [if_pos h1, if_pos h]
    · rcases headD_which (b.take f) 10 with e | e | e
      · exact absurd e h
      · exact .inl e
      · exact .inr e
  · rw [if_neg h1, List.take_of_length_le (by omega)] at hE
    rw [hE] at h ⊢
    refine ⟨?_, ?_⟩
    · unfold recordsF recordsD
      rw [if_neg h1, if_pos h]
    · rcases headD_which b 5 with e | e | e
      · exact absurd e h
      · exact .inl e
      · exact .inl e
/-- A header that is right. -/
theorem recs_good {b : List Int} {f : Nat} (hf : f ≤ b.length) (h : headE b f = 0) : (recordsF b f).1.names = (headF b f).1 ∧ (recordsF b f).2 ≠ 0 ∧ (recordsF b f).2 ≠ 5 ∧ (recordsF b f).2 ≤ 20 ∧ ∀ e ∈ (recordsF b f).1.events, e.ids.length ≤ 64 := by
  have hE : headE b f = (headD (b.take f) (if f < b.length then 10 else 5)).2.2 := rfl
  have hF : headF b f = headD (b.take f) (if f < b.length then 10 else 5) := rfl
  by_cases h1 : f < b.length
  · rw [if_pos h1] at hE hF
    rw [hE] at h
    have hr := recs_which (b.take f) ((headD (b.take f) 10).1.length : Int) ((b.take f).length + 1) (headD (b.take f) 10).2.1 0 [] (fun e he => by cases he)
    have e1 : recordsF b f = (⟨(headD (b.take f) 10).1, (recsD (b.take f) (headD (b.take f) 10).1.length ((b.take f).length + 1) (headD (b.take f) 10).2.1 0 []).1⟩, mapE (recsD (b.take f) (headD (b.take f) 10).1.length ((b.take f).length + 1) (headD (b.take f) 10).2.1 0 []).2) := by
      unfold recordsF recordsC
      rw [if_pos h1, if_neg (by rw [h]; exact fun e => e rfl)]
    rw [e1, hF]
    obtain ⟨hr1, hr2⟩ := hr
    obtain ⟨q, hq⟩ : ∃ q, (recsD (b.take f) (headD (b.take f) 10).1.length ((b.take f).length + 1) (headD (b.take f) 10).2.1 0 []).2 = q := ⟨_, rfl⟩
    rw [hq] at hr1
    have hm : mapE q ≠ 0 ∧ mapE q ≠ 5 ∧ mapE q ≤ 20 := by
      unfold mapE
      split <;> omega
    simp only [hq]
    exact ⟨trivial, hm.1, hm.2.1, hm.2.2, hr2⟩
  · rw [if_neg h1, List.take_of_length_le (by omega)] at hE hF
    rw [hE] at h
    have hr := recs_which b ((headD b 5).1.length : Int) (b.length + 1) (headD b 5).2.1 0 [] (fun e he => by cases he)
    have e1 : recordsF b f = (⟨(headD b 5).1, (recsD b (headD b 5).1.length (b.length + 1) (headD b 5).2.1 0 []).1⟩, (recsD b (headD b 5).1.length (b.length + 1) (headD b 5).2.1 0 []).2) := by
      unfold recordsF recordsD
      rw [if_neg h1, if_neg (by rw [h]; exact fun e => e rfl)]
    rw [e1, hF]
    obtain ⟨hr1, hr2⟩ := hr
    exact ⟨rfl, by simp only; omega, by simp only; omega, by simp only; omega, hr2⟩

/-- A pool when it is made. -/
def startP (b : List Int) (f : Nat) (size : Int) : PS := ⟨(recordsF b f).1, (recordsF b f).2, size, [], 0⟩
def newE (b : List Int) (f : Nat) (size : Int) : Nat := if size < 1 then 1 else headE b f
/-- What a call that makes a pool leaves. -/
def GotPool (w : World) (er : Nat) (s : PS) (e : Ending) (w' : World) : Prop :=
  Below w.heap.size w w' ∧ ((er ≠ 0 ∧ e = .returned (.tuple #[.pointer none, .int .i64 (er : Nat)])) ∨
    (er = 0 ∧ ∃ g D, e = .returned (.tuple #[.pointer (some ⟨g, 0, none⟩), .int .i64 0]) ∧ RP w' g D s ∧ ∀ q, D q → w.heap.size ≤ q))
theorem start_ok {b : List Int} {f : Nat} {size : Int} (hf : f ≤ b.length) (h : newE b f size = 0) : OkP (startP b f size) := by
  unfold newE at h
  split at h
  · cases h
  · obtain ⟨-, h2, -, h4, h5⟩ := recs_good hf h
    exact ⟨(fun i k e => by cases e), (by show ((0 : Nat) : Int) ≤ size; omega), Nat.le_refl _, ⟨h2, h4⟩, h5⟩
theorem start_rp {w W : World} (T : TypeId) {NA EA : Option Addr} {nn nc ne ec er : Nat} {t : Tr} {size : Int} (hb : Below w.heap.size w W) (htr : TrOk (fun b => w.heap.size ≤ b) W NA nn nc EA ne ec t) (hna : ∀ a, NA = some a → 0 < t.names.length → w.heap.size ≤ a.block ∧ a.block < W.heap.size) :
    RP (W.alloc (.cells #[.slice NA nn nc, .slice EA ne ec, .int .i64 (er : Nat), .int .i64 size, .slice none 0 0, .slice none 0 0, .int .i64 0] T)) W.heap.size (fun q => w.heap.size ≤ q ∧ q ≤ W.heap.size) ⟨t, er, size, [], 0⟩ := by
  have hal := (Below.refl _ W).alloc (Nat.le_refl _) (.cells #[.slice NA nn nc, .slice EA ne ec, .int .i64 (er : Nat), .int .i64 size, .slice none 0 0, .slice none 0 0, .int .i64 0] T)
  have hs : (W.alloc (.cells #[.slice NA nn nc, .slice EA ne ec, .int .i64 (er : Nat), .int .i64 size, .slice none 0 0, .slice none 0 0, .int .i64 0] T)).heap.size = W.heap.size + 1 := by simp
  have ht2 : TrOk (fun q => (w.heap.size ≤ q ∧ q ≤ W.heap.size) ∧ q < W.heap.size) W NA nn nc EA ne ec t := ⟨htr.1, htr.2, htr.3, htr.4, htr.5.mono (fun q hq h1 => ⟨⟨h1, Nat.le_of_lt hq⟩, hq⟩), htr.6, htr.7⟩
  exact ⟨⟨NA, nn, nc, EA, ne, ec, .slice none 0 0, .slice none 0 0, [], Blk.new W _ T _ rfl, ht2.below hal, (fun a e h0 => ⟨⟨(hna a e h0).1, Nat.le_of_lt (hna a e h0).2⟩, (hna a e h0).2⟩), World.ownsRow_nil _ _ _ _, World.ownsRow_nil _ _ _ _, (fun i k e => by simp at e), (fun q e => by cases e), (fun q e => by cases e)⟩, ⟨hb.size, Nat.le_refl _⟩, fun q hq => by rw [hs]; have := hq.2; omega⟩

set_option maxHeartbeats 8000000 in
set_option maxRecDepth 100000 in
theorem refNewPool (A : Option Addr) (n c : Nat) (zs : List Int) (w : World) (hnc : n ≤ c) (hc : c ≤ maxLen) (hn : n ≤ 58000000) (h : Rd .u8 w A n zs) (fault size : Int) (hsz : small64 size) :
    Calls Tryz.prog 18 #[.slice A n c, .int .i64 fault, .int .i64 size] w (GotPool w (newE zs (faultP n fault) size) (startP zs (faultP n fault) size)) := by
  have q63 : maxLen = 9223372036854775807 := rfl
  obtain ⟨hs1, hs2⟩ := hsz
  by_cases h1 : size < 1
  · have hE : newE zs (faultP n fault) size = 1 := by unfold newE; rw [if_pos h1]
    rw [hE]
    clear h
    go_enter Tryz.func18, Tryz.ntmps18
    go_wp2
    refine bodyPost_ret (v := .tuple #[.pointer none, .int .i64 1]) (by simp [results, Tryz.results18, go_sem]) rfl ?_
    exact ⟨Below.refl _ _, .inl ⟨by decide, rfl⟩⟩
  have hf : faultP n fault ≤ zs.length := by rw [h.len]; exact fault_le n fault
  have HR := Lib.hid (refRecordsF A n c zs w hnc hc hn h fault)
  have HL := Lib.hid (fun W (hb : Below w.heap.size w W) => refHeadless A n c zs W hnc hc (h.below hb) fault)
  have HBAD := Lib.hid (fun h => recs_bad (b := zs) (f := faultP n fault) hf h)
  have HGOOD := Lib.hid (fun h => recs_good (b := zs) (f := faultP n fault) hf h)
  have HE := Lib.hid (show newE zs (faultP n fault) size = headE zs (faultP n fault) by unfold newE; rw [if_neg h1])
  have HST := Lib.hid (show startP zs (faultP n fault) size = ⟨(recordsF zs (faultP n fault)).1, (recordsF zs (faultP n fault)).2, size, [], 0⟩ from rfl)
  obtain ⟨f, hff⟩ : ∃ f, faultP n fault = f := ⟨_, rfl⟩
  rw [hff] at HR HL HBAD HGOOD HE HST ⊢
  obtain ⟨T, hT⟩ : ∃ T, recordsF zs f = T := ⟨_, rfl⟩
  rw [hT] at HR HBAD HGOOD HST
  obtain ⟨t, er⟩ := T
  obtain ⟨he, hhe⟩ : ∃ he, headE zs f = he := ⟨_, rfl⟩
  rw [hhe] at HL HBAD HGOOD HE
  unfold GotRecs at HR
  rw [HE.out, HST.out]
  clear h hf hff hT hhe
  go_enter Tryz.func18, Tryz.ntmps18
  go_wp2_with fail
  refine HR.out.mono ?_
  rintro e w1 ⟨NA, nc, EA, ec, rfl, htr, hNA, hB1⟩
  have hal := (Below.refl _ w1).alloc (Nat.le_refl _) (.cells #[.slice NA t.names.length nc, .slice EA t.events.length ec] 33)
  have hbx := Blk.new w1 #[.slice NA t.names.length nc, .slice EA t.events.length ec] 33 [.slice NA t.names.length nc, .slice EA t.events.length ec] rfl
  obtain ⟨w2, hw2⟩ : ∃ w2, w1.alloc (.cells #[.slice NA t.names.length nc, .slice EA t.events.length ec] 33) = w2 := ⟨_, rfl⟩
  rw [hw2] at hal hbx
  have HB2 := Lib.hid (hB1.trans (hal.mono hB1.size))
  have HT2 := Lib.hid (htr.below hal)
  have hwn := htr.names
  have HNA := Lib.hid (show ∀ a, NA = some a → 0 < t.names.length → w.heap.size ≤ a.block ∧ a.block < w2.heap.size from fun a e h0 => ⟨hNA a e, by
    obtain ⟨b', off', e2, hc⟩ := hwn h0
    rw [e] at e2
    injection e2 with e2
    subst e2
    obtain ⟨s0, hs0⟩ : ∃ s0, t.names[0]? = some s0 := ⟨_, List.getElem?_eq_getElem h0⟩
    have h3 := World.block_lt_of_cell? w1 _ (hc 0 s0 hs0)
    have h4 := hal.size
    have h5 : b' < w1.heap.size := h3
    show b' < w2.heap.size
    omega⟩)
  have HBX := Lib.hid hbx
  have x0 := hbx.cell 0 rfl
  have x1 := hbx.cell 1 rfl
  clear htr hNA hB1 hal hbx HR hwn
  by_cases hg : he = 0
  · subst hg
    obtain ⟨-, g1, g2, g3, -⟩ := HGOOD.out rfl
    have g2 : er ≠ 5 := g2
    have e5 : ((er : Int) == 5) = false := by simp; omega
    by_cases h10 : er = 10
    · subst h10
      by_cases h0 : t.events.length = 0
      · have HHL := Lib.hid (HL.out w2 HB2.out)
        have e0 : ((t.events.length : Int) == 0) = true := by simp [h0]
        clear h0
        go_wp2_with fail
        refine HHL.out.mono ?_
        rintro e w3 ⟨rfl, hB3⟩
        have HB3 := Lib.hid (HB2.out.trans (hB3.mono HB2.out.size))
        have HT3 := Lib.hid (HT2.out.below hB3)
        have HN3 := Lib.hid (show ∀ a, NA = some a → 0 < t.names.length → w.heap.size ≤ a.block ∧ a.block < w3.heap.size from fun a e h => ⟨(HNA.out a e h).1, Nat.lt_of_lt_of_le (HNA.out a e h).2 hB3.size⟩)
        have hb3 := HBX.out.later hB3
        have x0 := hb3.cell 0 rfl
        have x1 := hb3.cell 1 rfl
        clear hB3 hb3
        have HRP := Lib.hid (start_rp (w := w) (er := 10) (size := size) 57 HB3.out HT3.out HN3.out)
        have HB9 := Lib.hid (HB3.out.alloc HB3.out.size (.cells #[.slice NA t.names.length nc, .slice EA t.events.length ec, .int .i64 (10 : Nat), .int .i64 size, .slice none 0 0, .slice none 0 0, .int .i64 0] 57))
        go_wp2_with fail
        refine bodyPost_ret (v := .tuple #[.pointer (some ⟨w3.heap.size, 0, none⟩), .int .i64 0]) (by simp [results, Tryz.results18, go_sem]) rfl ?_
        exact ⟨HB9.out, .inr ⟨rfl, w3.heap.size, _, rfl, HRP.out, fun q hq => hq.1⟩⟩
      · have e0 : ((t.events.length : Int) == 0) = false := by rw [beq_eq_false_iff_ne]; omega
        have HRP := Lib.hid (start_rp (w := w) (er := 10) (size := size) 57 HB2.out HT2.out HNA.out)
        have HB9 := Lib.hid (HB2.out.alloc HB2.out.size (.cells #[.slice NA t.names.length nc, .slice EA t.events.length ec, .int .i64 (10 : Nat), .int .i64 size, .slice none 0 0, .slice none 0 0, .int .i64 0] 57))
        go_wp2_with fail
        refine bodyPost_ret (v := .tuple #[.pointer (some ⟨w2.heap.size, 0, none⟩), .int .i64 0]) (by simp [results, Tryz.results18, go_sem]) rfl ?_
        exact ⟨HB9.out, .inr ⟨rfl, w2.heap.size, _, rfl, HRP.out, fun q hq => hq.1⟩⟩
    · have e10 : ((er : Int) == 10) = false := by simp; omega
      have HRP := Lib.hid (start_rp (w := w) (er := er) (size := size) 57 HB2.out HT2.out HNA.out)
      have HB9 := Lib.hid (HB2.out.alloc HB2.out.size (.cells #[.slice NA t.names.length nc, .slice EA t.events.length ec, .int .i64 (er : Nat), .int .i64 size, .slice none 0 0, .slice none 0 0, .int .i64 0] 57))
      go_wp2_with fail
      refine bodyPost_ret (v := .tuple #[.pointer (some ⟨w2.heap.size, 0, none⟩), .int .i64 0]) (by simp [results, Tryz.results18, go_sem]) rfl ?_
      exact ⟨HB9.out, .inr ⟨rfl, w2.heap.size, _, rfl, HRP.out, fun q hq => hq.1⟩⟩
  · obtain ⟨e1, e2⟩ := HBAD.out hg
    injection e1 with e1 e3
    subst e1; subst e3
    rcases e2 with rfl | rfl
    · go_wp2_with fail
      refine bodyPost_ret (v := .tuple #[.pointer none, .int .i64 5]) (by simp [results, Tryz.results18, go_sem]) rfl ?_
      exact ⟨HB2.out, .inl ⟨by decide, rfl⟩⟩
    · have HHL := Lib.hid (HL.out w2 HB2.out)
      have x1 : w2.cell? ⟨w1.heap.size, 1, none⟩ = some (.slice EA 0 ec) := x1
      go_wp2_with fail
      refine HHL.out.mono ?_
      rintro e w3 ⟨rfl, hB3⟩
      have HB3 := Lib.hid (HB2.out.trans (hB3.mono HB2.out.size))
      clear hB3
      go_wp2_with fail
      refine bodyPost_ret (v := .tuple #[.pointer none, .int .i64 10]) (by simp [results, Tryz.results18, go_sem]) rfl ?_
      exact ⟨HB3.out, .inl ⟨by decide, rfl⟩⟩
end Go.Proofs.YtimbbfneaaglbaaGreat.Heads

namespace Go.Proofs.YtimbbfneaaglbaaGreat.Heads
open Go.RowKit Go.Proofs.YtimbbfneaaglbaaGreat.Ints Go.Proofs.YtimbbfneaaglbaaGreat.Mem Go.Proofs.YtimbbfneaaglbaaGreat.Trace Go.Proofs.YtimbbfneaaglbaaGreat.Record Go.Proofs.YtimbbfneaaglbaaGreat.Log Go.Proofs.YtimbbfneaaglbaaGreat.Src

/-- A landed pool in memory: the log's bytes, how far they can be read; its world, its block, all blocks of its own, how many Reads told bytes, what it is. -/
abbrev LPool := List Int → Nat → World → Nat → (Nat → Prop) → Nat → PS → Prop
def TurnL (L : LPool) (b : List Int) (f : Nat) (w w' : World) (g : Nat) (D : Nat → Prop) (N : Nat) (s : PS) : Prop :=
  ∃ D' N', L b f w' g D' N' s ∧ (∀ q, D' q → D q ∨ w.heap.size ≤ q) ∧ Left D w w' ∧ N' ≤ N + 1099511627776
/-- What the landed Next leaves. -/
def GotNextL (L : LPool) (b : List Int) (f : Nat) (w : World) (g : Nat) (D : Nat → Prop) (N : Nat) (x : Ev) (er : Nat) (s : PS) (e : Ending) (w' : World) : Prop :=
  ∃ K c D' N', e = .returned (.tuple #[.agg #[.int .u64 x.time, .slice K x.ids.length c], .int .i64 (er : Nat)]) ∧ EvOk w' x K c ∧ (∀ a, K = some a → w.heap.size ≤ a.block ∧ ¬ D' a.block) ∧
    L b f w' g D' N' s ∧ (∀ q, D' q → D q ∨ w.heap.size ≤ q) ∧ Left D w w' ∧ N' ≤ N + 1099511627776
structure PoolC (L : LPool) : Prop where
  keep : ∀ b f w w' g D N s, L b f w g D N s → (∀ q, D q → w'.heap[q]? = w.heap[q]?) → w.heap.size ≤ w'.heap.size → L b f w' g D N s
  lt : ∀ b f w g D N s, L b f w g D N s → D g ∧ ∀ q, D q → q < w.heap.size
  new : ∀ (A : Option Addr) (n c : Nat) (zs : List Int) (B : Option Addr) (m d : Nat) (sc : List Int) (fault size : Int) (w : World), n ≤ c → c ≤ maxLen → Rd .u8 w A n zs → Rd .i64 w B m sc → n ≤ 58000000 → m * 8 ≤ 140737488351232 → small64 fault → small64 size →
    Calls Tryz.prog 11 #[.slice A n c, .slice B m d, .int .i64 fault, .int .i64 size] w fun e w' => Below w.heap.size w w' ∧
      ((newE zs (faultP n fault) size ≠ 0 ∧ e = .returned (.tuple #[.pointer none, .int .i64 (newE zs (faultP n fault) size : Nat)])) ∨
       (newE zs (faultP n fault) size = 0 ∧ ∃ g D N, e = .returned (.tuple #[.pointer (some ⟨g, 0, none⟩), .int .i64 0]) ∧ L zs (faultP n fault) w' g D N (startP zs (faultP n fault) size) ∧ (∀ q, D q → w.heap.size ≤ q) ∧ N ≤ 1099511627776))
  open_ : ∀ b f w g D N s, L b f w g D N s → OkP s → s.hs.length ≤ 100000 → N ≤ 2305843009213693952 →
    Calls Tryz.prog 13 #[.pointer (some ⟨g, 0, none⟩)] w fun e w' => e = .returned (.tuple #[.int .i64 ((addP s 0).1 : Nat), .int .i64 ((addP s 0).2.1 : Nat)]) ∧ TurnL L b f w w' g D N (addP s 0).2.2
  clone : ∀ b f w g D N s id, L b f w g D N s → OkP s → s.hs.length ≤ 100000 → N ≤ 2305843009213693952 → small64 id →
    Calls Tryz.prog 46 #[.pointer (some ⟨g, 0, none⟩), .int .i64 id] w fun e w' => e = .returned (.tuple #[.int .i64 ((cloneP s id).1 : Nat), .int .i64 ((cloneP s id).2.1 : Nat)]) ∧ TurnL L b f w w' g D N (cloneP s id).2.2
  next : ∀ b f w g D N s id, L b f w g D N s → OkP s → s.hs.length ≤ 100000 → N ≤ 2305843009213693952 → small64 id →
    Calls Tryz.prog 48 #[.pointer (some ⟨g, 0, none⟩), .int .i64 id] w (GotNextL L b f w g D N (nextP s id).1 (nextP s id).2.1 (nextP s id).2.2)
  seek : ∀ b f w g D N s id k, L b f w g D N s → OkP s → s.hs.length ≤ 100000 → N ≤ 2305843009213693952 → small64 id → small64 k →
    Calls Tryz.prog 51 #[.pointer (some ⟨g, 0, none⟩), .int .i64 id, .int .i64 k] w fun e w' => e = .returned (.int .i64 ((seekP s id k).1 : Nat)) ∧ TurnL L b f w w' g D N (seekP s id k).2
  close : ∀ b f w g D N s id, L b f w g D N s → OkP s → s.hs.length ≤ 100000 → N ≤ 2305843009213693952 → small64 id →
    Calls Tryz.prog 16 #[.pointer (some ⟨g, 0, none⟩), .int .i64 id] w fun e w' => e = .returned (.bool (closeP s id).1) ∧ TurnL L b f w w' g D N (closeP s id).2
  index : ∀ b f w g D N s id, L b f w g D N s → OkP s → s.hs.length ≤ 100000 → N ≤ 2305843009213693952 → small64 id →
    Calls Tryz.prog 24 #[.pointer (some ⟨g, 0, none⟩), .int .i64 id] w fun e w' => e = .returned (.tuple #[.int .i64 (((headP s.hs id).getD 0 : Nat) : Int), .bool (headP s.hs id).isSome]) ∧ TurnL L b f w w' g D N s
  count : ∀ b f w g D N s, L b f w g D N s → OkP s → s.hs.length ≤ 100000 → N ≤ 2305843009213693952 →
    Calls Tryz.prog 14 #[.pointer (some ⟨g, 0, none⟩)] w fun e w' => e = .returned (.int .i64 (countP s.hs : Nat)) ∧ TurnL L b f w w' g D N s
  cells : ∀ b f w g D N s, L b f w g D N s → OkP s → s.hs.length ≤ 100000 → N ≤ 2305843009213693952 →
    Calls Tryz.prog 15 #[.pointer (some ⟨g, 0, none⟩)] w fun e w' => e = .returned (.int .i64 (cellsP s.t s.hs : Nat)) ∧ TurnL L b f w w' g D N s
  peak : ∀ b f w g D N s, L b f w g D N s → OkP s → s.hs.length ≤ 100000 → N ≤ 2305843009213693952 →
    Calls Tryz.prog 17 #[.pointer (some ⟨g, 0, none⟩)] w fun e w' => e = .returned (.int .i64 (s.peak : Nat)) ∧ TurnL L b f w w' g D N s
  names : ∀ b f w g D N s, L b f w g D N s → OkP s → s.hs.length ≤ 100000 → N ≤ 2305843009213693952 →
    Calls Tryz.prog 20 #[.pointer (some ⟨g, 0, none⟩)] w fun e w' => ∃ A c D' N', e = .returned (.slice A s.t.names.length c) ∧ Strs w' A s.t.names ∧ (∀ a, A = some a → w.heap.size ≤ a.block ∧ ¬ D' a.block) ∧ s.t.names.length ≤ c ∧ c ≤ maxLen ∧
      L b f w' g D' N' s ∧ (∀ q, D' q → D q ∨ w.heap.size ≤ q) ∧ Left D w w' ∧ N' ≤ N + 1099511627776

/-- Blocks of X are as they were. -/
def Kept (X : Nat → Prop) (w w' : World) : Prop := ∀ q, X q → w'.heap[q]? = w.heap[q]?
/-- A landed pool and the reference's, beside one another, and beside blocks of X. -/
structure BothP (L : LPool) (b : List Int) (f : Nat) (X : Nat → Prop) (w : World) (gp gr base B : Nat) (sl sr : PS) : Prop where
  ex : ∃ Dp Dr N, L b f w gp Dp N sl ∧ RP w gr Dr sr ∧ (∀ q, Dp q → ¬ Dr q) ∧ (∀ q, Dp q → base ≤ q) ∧ (∀ q, Dr q → base ≤ q) ∧ N ≤ B ∧ (∀ q, X q → ¬ Dp q ∧ ¬ Dr q)
  lt : ∀ q, X q → q < w.heap.size
  base : base ≤ w.heap.size
theorem Kept.of_left {X D : Nat → Prop} {w w' : World} (h : Left D w w') (hx : ∀ q, X q → ¬ D q ∧ q < w.heap.size) : Kept X w w' := fun q hq => h.block q (hx q hq).2 (hx q hq).1
theorem BothP.below {L : LPool} (C : PoolC L) {b : List Int} {f : Nat} {X : Nat → Prop} {w w' : World} {gp gr base B : Nat} {sl sr : PS} (h : BothP L b f X w gp gr base B sl sr) (hb : Below w.heap.size w w') : BothP L b f X w' gp gr base B sl sr := by
  obtain ⟨Dp, Dr, N, h1, h2, h3, h4, h5, h6, h7⟩ := h.ex
  have hlt := (C.lt _ _ _ _ _ _ _ h1).2
  exact ⟨⟨Dp, Dr, N, C.keep _ _ _ _ _ _ _ _ h1 (fun q hq => hb.block q (hlt q hq)) hb.size, h2.below hb, h3, h4, h5, h6, h7⟩, fun q hq => Nat.lt_of_lt_of_le (h.lt q hq) hb.size, Nat.le_trans h.base hb.size⟩
/-- A block that is laid is one of X. -/
theorem BothP.box {L : LPool} (C : PoolC L) {b : List Int} {f : Nat} {X : Nat → Prop} {w : World} {gp gr base B : Nat} {sl sr : PS} (h : BothP L b f X w gp gr base B sl sr) (o : Obj) : BothP L b f (fun q => X q ∨ q = w.heap.size) (w.alloc o) gp gr base B sl sr := by
  have hb := h.below C ((Below.refl _ w).alloc (Nat.le_refl _) o)
  obtain ⟨Dp, Dr, N, h1, h2, h3, h4, h5, h6, h7⟩ := hb.ex
  obtain ⟨Dp0, Dr0, N0, g1, g2, g3, g4, g5, g6, g7⟩ := h.ex
  have hsz : (w.alloc o).heap.size = w.heap.size + 1 := by simp
  have hlt := (C.lt _ _ _ _ _ _ _ g1).2
  refine ⟨⟨Dp0, Dr0, N0, C.keep _ _ _ _ _ _ _ _ g1 (fun q hq => heap_alloc_old w o (hlt q hq)) (by omega), g2.below ((Below.refl _ w).alloc (Nat.le_refl _) o), g3, g4, g5, g6, fun q hq => ?_⟩, fun q hq => ?_, hb.base⟩
  · rcases hq with hq | hq
    · exact g7 q hq
    · subst hq
      exact ⟨fun e => absurd (hlt _ e) (Nat.lt_irrefl _), fun e => absurd (g2.lt _ e) (Nat.lt_irrefl _)⟩
  · rcases hq with hq | hq
    · have := h.lt q hq; omega
    · omega
theorem BothP.less {L : LPool} {b : List Int} {f : Nat} {X Y : Nat → Prop} {w : World} {gp gr base B B' : Nat} {sl sr : PS} (h : BothP L b f X w gp gr base B sl sr) (hY : ∀ q, Y q → X q) (hB : B ≤ B') : BothP L b f Y w gp gr base B' sl sr := by
  obtain ⟨Dp, Dr, N, h1, h2, h3, h4, h5, h6, h7⟩ := h.ex
  exact ⟨⟨Dp, Dr, N, h1, h2, h3, h4, h5, Nat.le_trans h6 hB, fun q hq => h7 q (hY q hq)⟩, fun q hq => h.lt q (hY q hq), h.base⟩
/-- What both leave: the law goes on with it. -/
def Step (L : LPool) (b : List Int) (f : Nat) (X : Nat → Prop) (w w' : World) (gp gr base B : Nat) (sl sr : PS) : Prop := BothP L b f X w' gp gr base B sl sr ∧ Kept X w w' ∧ Below base w w'
/-- A call of a landed function. -/
theorem BothP.land {L : LPool} (_C : PoolC L) {b : List Int} {f : Nat} {X : Nat → Prop} {w : World} {gp gr base B : Nat} {sl sl' sr : PS} (h : BothP L b f X w gp gr base B sl sr) {fn : FuncId} {args : Array Value} {R : Ending → Prop}
    (hc : ∀ D N, L b f w gp D N sl → N ≤ B → Calls Tryz.prog fn args w fun e w' => R e ∧ TurnL L b f w w' gp D N sl') :
    Calls Tryz.prog fn args w fun e w' => R e ∧ Step L b f X w w' gp gr base (B + 1099511627776) sl' sr := by
  obtain ⟨Dp, Dr, N, h1, h2, h3, h4, h5, h6, h7⟩ := h.ex
  refine (hc Dp N h1 h6).mono ?_
  rintro e w' ⟨hr, D', N', g1, g2, g3, g4⟩
  refine ⟨hr, ⟨⟨D', Dr, N', g1, h2.left g3 (fun q hq hp => h3 q hp hq), fun q hq hr => ?_, fun q hq => ?_, h5, by omega, fun q hq => ⟨fun hd => ?_, (h7 q hq).2⟩⟩, fun q hq => Nat.lt_of_lt_of_le (h.lt q hq) g3.size, Nat.le_trans h.base g3.size⟩, Kept.of_left g3 (fun q hq => ⟨(h7 q hq).1, h.lt q hq⟩), g3.below h4 h.base⟩
  · rcases g2 q hq with e2 | e2
    · exact h3 q e2 hr
    · have := h2.lt q hr; omega
  · rcases g2 q hq with e2 | e2
    · exact h4 q e2
    · exact Nat.le_trans h.base e2
  · rcases g2 q hd with e2 | e2
    · exact (h7 q hq).1 e2
    · have := h.lt q hq; omega
/-- A call of the reference's. -/
theorem BothP.ref {L : LPool} (C : PoolC L) {b : List Int} {f : Nat} {X : Nat → Prop} {w : World} {gp gr base B : Nat} {sl sr sr' : PS} (h : BothP L b f X w gp gr base B sl sr) {fn : FuncId} {args : Array Value} {R : Ending → World → Prop}
    (hc : ∀ D, RP w gr D sr → Calls Tryz.prog fn args w fun e w' => R e w' ∧ Turn w w' gr D sr') :
    Calls Tryz.prog fn args w fun e w' => R e w' ∧ Step L b f X w w' gp gr base B sl sr' := by
  obtain ⟨Dp, Dr, N, h1, h2, h3, h4, h5, h6, h7⟩ := h.ex
  have hlt := (C.lt _ _ _ _ _ _ _ h1).2
  refine (hc Dr h2).mono ?_
  rintro e w' ⟨hr, D', g1, g2, g3⟩
  refine ⟨hr, ⟨⟨Dp, D', N, C.keep _ _ _ _ _ _ _ _ h1 (fun q hq => g3.block q (hlt q hq) (h3 q hq)) g3.size, g1, fun q hq hd => ?_, h4, fun q hq => ?_, h6, fun q hq => ⟨(h7 q hq).1, fun hd => ?_⟩⟩, fun q hq => Nat.lt_of_lt_of_le (h.lt q hq) g3.size, Nat.le_trans h.base g3.size⟩, Kept.of_left g3 (fun q hq => ⟨(h7 q hq).2, h.lt q hq⟩), g3.below h5 h.base⟩
  · rcases g2 q hd with e2 | e2
    · exact h3 q hq e2
    · have := hlt q hq; omega
  · rcases g2 q hq with e2 | e2
    · exact h5 q e2
    · exact Nat.le_trans h.base e2
  · rcases g2 q hd with e2 | e2
    · exact (h7 q hq).2 e2
    · have := h.lt q hq; omega
/-- A call of the landed Next: its event's ids are of X from then on. -/
theorem BothP.nextL {L : LPool} (C : PoolC L) {b : List Int} {f : Nat} {X : Nat → Prop} {w : World} {gp gr base B : Nat} {sl sr : PS} (h : BothP L b f X w gp gr base B sl sr) (hok : OkP sl) (hl : sl.hs.length ≤ 100000) (hB : B ≤ 2305843009213693952) (id : Int) (hid : small64 id) :
    Calls Tryz.prog 48 #[.pointer (some ⟨gp, 0, none⟩), .int .i64 id] w fun e w' => ∃ K c, e = .returned (.tuple #[.agg #[.int .u64 (nextP sl id).1.time, .slice K (nextP sl id).1.ids.length c], .int .i64 ((nextP sl id).2.1 : Nat)]) ∧ EvOk w' (nextP sl id).1 K c ∧
      BothP L b f (fun q => X q ∨ (q < w'.heap.size ∧ ∃ a, K = some a ∧ a.block = q)) w' gp gr base (B + 1099511627776) (nextP sl id).2.2 sr ∧ Kept X w w' ∧ Below base w w' := by
  obtain ⟨Dp, Dr, N, h1, h2, h3, h4, h5, h6, h7⟩ := h.ex
  refine (C.next b f w gp Dp N sl id h1 hok hl (by omega) hid).mono ?_
  rintro e w' ⟨K, c, D', N', he, hev, hK, g1, g2, g3, g4⟩
  refine ⟨K, c, he, hev, ⟨⟨D', Dr, N', g1, h2.left g3 (fun q hq hp => h3 q hp hq), fun q hq hr => ?_, fun q hq => ?_, h5, by omega, fun q hq => ?_⟩, fun q hq => ?_, Nat.le_trans h.base g3.size⟩, Kept.of_left g3 (fun q hq => ⟨(h7 q hq).1, h.lt q hq⟩), g3.below h4 h.base⟩
  · rcases g2 q hq with e2 | e2
    · exact h3 q e2 hr
    · have := h2.lt q hr; omega
  · rcases g2 q hq with e2 | e2
    · exact h4 q e2
    · exact Nat.le_trans h.base e2
  · rcases hq with hq | ⟨-, a, ha, rfl⟩
    · refine ⟨fun hd => ?_, (h7 q hq).2⟩
      rcases g2 q hd with e2 | e2
      · exact (h7 q hq).1 e2
      · have := h.lt q hq; omega
    · exact ⟨(hK a ha).2, fun hr => by have := h2.lt _ hr; have := (hK a ha).1; omega⟩
  · rcases hq with hq | hq
    · exact Nat.lt_of_lt_of_le (h.lt q hq) g3.size
    · exact hq.1
theorem Step.trans {L : LPool} {b : List Int} {f : Nat} {X Y : Nat → Prop} {w w1 w2 : World} {gp gr base B B2 : Nat} {sl sr sl2 sr2 : PS} (h : Step L b f X w w1 gp gr base B sl sr) (h2 : Step L b f Y w1 w2 gp gr base B2 sl2 sr2) (hY : ∀ q, X q → Y q) : Step L b f X w w2 gp gr base B2 sl2 sr2 :=
  ⟨h2.1.less hY (Nat.le_refl _), fun q hq => (h2.2.1 q (hY q hq)).trans (h.2.1 q hq), h.2.2.trans h2.2.2⟩
theorem Step.from_below {L : LPool} {b : List Int} {f : Nat} {X Y : Nat → Prop} {w w1 w2 : World} {gp gr base B : Nat} {sl sr : PS} (hb : Below w.heap.size w w1) (hX : ∀ q, X q → q < w.heap.size) (hs : base ≤ w.heap.size) (h : Step L b f Y w1 w2 gp gr base B sl sr) (hY : ∀ q, X q → Y q) : Step L b f X w w2 gp gr base B sl sr :=
  ⟨h.1.less hY (Nat.le_refl _), fun q hq => (h.2.1 q (hY q hq)).trans (hb.block q (hX q hq)), (hb.mono hs).trans h.2.2⟩
theorem Step.below {L : LPool} (C : PoolC L) {b : List Int} {f : Nat} {X : Nat → Prop} {w w1 w2 : World} {gp gr base B : Nat} {sl sr : PS} (h : Step L b f X w w1 gp gr base B sl sr) (hb : Below w1.heap.size w1 w2) : Step L b f X w w2 gp gr base B sl sr :=
  ⟨h.1.below C hb, fun q hq => (hb.block q (h.1.lt q hq)).trans (h.2.1 q hq), h.2.2.trans (hb.mono h.1.base)⟩
end Go.Proofs.YtimbbfneaaglbaaGreat.Heads
