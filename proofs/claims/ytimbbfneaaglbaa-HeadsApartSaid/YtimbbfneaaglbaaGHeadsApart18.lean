/-
  The contracts of the landed Head and Record of package scan. By an AI agent.
  The walk of the reference's Records with a fault (stage 13). Written by wip/tools/genrecs13.py. By an AI agent.
  The walks of the reference's headless and NewPool (stage 13). By an AI agent.
-/
import Derived.Test.YtimbbfneaaglbaaGHeadsApart15
import Derived.Test.YtimbbfneaaglbaaGHeadsApart17
import Derived.Test.YtimbbfneaaglbaaGHeadsApart16
import Derived.Test.YtimbbfneaaglbaaGHeadsApart10
namespace Go.Proofs.Ytimbbfneaaglbaa.Scan
open Go.RowKit Go.Proofs.Ytimbbfneaaglbaa.Ints Go.Proofs.Ytimbbfneaaglbaa.Mem Go.Proofs.Ytimbbfneaaglbaa.SumMath Go.Proofs.Ytimbbfneaaglbaa.SumWalks Go.Proofs.Ytimbbfneaaglbaa.Trace Go.Proofs.Ytimbbfneaaglbaa.Record Go.Proofs.Ytimbbfneaaglbaa.Log Go.Proofs.Ytimbbfneaaglbaa.Src

/-- The header of bytes that can be read up to a place. -/
def headF (b : List Int) (f : Nat) : List (List UInt8) × Nat × Nat := headD (b.take f) (if f < b.length then 10 else 5)
/-- What the landed Record leaves. -/
def GotRecS (S : Nat → Prop) (w : World) (g : Nat) (b sc : List Int) (f N : Nat) (p props : Int) (e : Ending) (w' : World) : Prop :=
  ∃ K c N', e = .returned (.tuple #[.agg #[.int .u64 (scanV b f p props).time, .slice K (scanV b f p props).ids.length c], .int .i64 (scanN b f p props : Nat), .int .i64 (scanE b f p props : Nat)]) ∧
    EvOk w' (scanV b f p props) K c ∧ LSrc S w' g b sc f N' ∧ (N' ≤ N + b.length ∧ N' ≤ N + 78) ∧ w.grownBy w' (some g) ∧ ∀ a, K = some a → w.heap.size ≤ a.block
/-- What the landed Head leaves. -/
def GotHeadS (S : Nat → Prop) (w : World) (g : Nat) (b sc : List Int) (f N : Nat) (e : Ending) (w' : World) : Prop :=
  ∃ A c N', e = .returned (.tuple #[.slice A (headF b f).1.length c, .int .i64 ((headF b f).2.1 : Nat), .int .i64 ((headF b f).2.2 : Nat)]) ∧
    w'.ownsRow w.heap.size 9 1 (.slice A (headF b f).1.length c) (headF b f).1.length ((headF b f).1.map strS) ∧ LSrc S w' g b sc f N' ∧ N' ≤ N + b.length ∧ w.grownBy w' (some g)
def RecC (M : Nat) : Prop := ∀ (S : Nat → Prop) (g : Nat) (b sc : List Int) (f N : Nat) (p props : Int) (w : World), LSrc S w g b sc f N → N ≤ 4611686018427387904 → small64 p → b.length ≤ M → Calls Try.prog 55 #[.pointer (some ⟨g, 0, none⟩), .int .i64 p, .int .i64 props] w (GotRecS S w g b sc f N p props)
def HeadC (M : Nat) : Prop := ∀ (S : Nat → Prop) (g : Nat) (b sc : List Int) (f N : Nat) (w : World), LSrc S w g b sc f N → N ≤ 4611686018427387904 → b.length ≤ M → Calls Try.prog 24 #[.pointer (some ⟨g, 0, none⟩)] w (GotHeadS S w g b sc f N)
end Go.Proofs.Ytimbbfneaaglbaa.Scan

namespace Go.Proofs.Ytimbbfneaaglbaa.Log
open Go.RowKit Go.Proofs.Ytimbbfneaaglbaa.Ints Go.Proofs.Ytimbbfneaaglbaa.Mem Go.Proofs.Ytimbbfneaaglbaa.SumMath Go.Proofs.Ytimbbfneaaglbaa.SumWalks Go.Proofs.Ytimbbfneaaglbaa.Trace Go.Proofs.Ytimbbfneaaglbaa.Record

/-- What is wrong behind what can be read, where a fault cuts it off. -/
def mapE (e : Nat) : Nat := if e = 13 ∨ e = 7 then 10 else e
/-- The records of bytes that a fault cuts off. -/
def recordsC (b : List Int) : Tr × Nat :=
  if (headD b 10).2.2 ≠ 0 then (noTr, (headD b 10).2.2)
  else (⟨(headD b 10).1, (recsD b (headD b 10).1.length (b.length + 1) (headD b 10).2.1 0 []).1⟩, mapE (recsD b (headD b 10).1.length (b.length + 1) (headD b 10).2.1 0 []).2)

/-- What can be read of a log's bytes, up to a place. -/
def recordsF (b : List Int) (f : Nat) : Tr × Nat := if f < b.length then recordsC (b.take f) else recordsD b
end Go.Proofs.Ytimbbfneaaglbaa.Log

namespace Go.Proofs.Ytimbbfneaaglbaa.Heads
open Go.RowKit Go.Proofs.Ytimbbfneaaglbaa.Ints Go.Proofs.Ytimbbfneaaglbaa.Mem Go.Proofs.Ytimbbfneaaglbaa.SumMath Go.Proofs.Ytimbbfneaaglbaa.Trace Go.Proofs.Ytimbbfneaaglbaa.Record Go.Proofs.Ytimbbfneaaglbaa.Log Go.Proofs.Ytimbbfneaaglbaa.Src Go.Proofs.Ytimbbfneaaglbaa.Scan

/-- What is wrong with the header of bytes that can be read up to a place. -/
def headE (b : List Int) (f : Nat) : Nat := (headF b f).2.2
theorem faultN {n : Nat} {fault : Int} (h : fault < 0) : faultP n fault = n := by unfold faultP; rw [if_pos (.inl h)]
theorem faultW {n : Nat} {fault : Int} (h : (n : Int) ≤ fault) : faultP n fault = n := by unfold faultP; split <;> omega
theorem faultI {n f : Nat} (h : f < n) : faultP n (f : Int) = f := by unfold faultP; split <;> omega

/-! ### what may be wrong -/
theorem errR_which (b : List Int) (p : Int) : errR b p = 0 ∨ errR b p = 13 ∨ errR b p = 7 ∨ errR b p = 2 ∨ errR b p = 6 ∨ errR b p = 9 := by
  unfold errR sizeE
  repeat' split
  all_goals simp_all
theorem recs_which (b : List Int) (props : Int) : ∀ (fuel p : Nat) (last : Int) (es : List Ev), (∀ e ∈ es, e.ids.length ≤ 64) →
    ((recsD b props fuel p last es).2 = 13 ∨ (recsD b props fuel p last es).2 = 7 ∨ (recsD b props fuel p last es).2 = 2 ∨ (recsD b props fuel p last es).2 = 6 ∨ (recsD b props fuel p last es).2 = 9 ∨ (recsD b props fuel p last es).2 = 8) ∧ ∀ e ∈ (recsD b props fuel p last es).1, e.ids.length ≤ 64 := by
  intro fuel
  induction fuel with
  | zero => intro p last es h; exact ⟨.inl rfl, h⟩
  | succ fuel ih =>
    intro p last es h
    by_cases h0 : errR (b.drop p) (propsR props) = 0
    · by_cases h2 : (evR (b.drop p)).time < last
      · rw [recsD_time fuel h0 h2]
        exact ⟨.inr (.inr (.inr (.inr (.inr rfl)))), h⟩
      · rw [recsD_next fuel h0 h2]
        refine ih _ _ _ (fun e he => ?_)
        rcases List.mem_append.1 he with h3 | h3
        · exact h e h3
        · rw [List.mem_singleton.1 h3]
          have h4 := (err_zero h0).2.2
          have h5 := ids_count (ids_wide (props_bd props).2 h4)
          omega
    · rw [recsD_err fuel rfl h0]
      refine ⟨?_, h⟩
      rcases errR_which (b.drop p) (propsR props) with e | e | e | e | e | e
      · exact absurd e h0
      · exact .inl e
      · exact .inr (.inl e)
      · exact .inr (.inr (.inl e))
      · exact .inr (.inr (.inr (.inl e)))
      · exact .inr (.inr (.inr (.inr (.inl e))))
theorem namesD_which (x : List Int) (m : Nat) : ∀ (c p : Nat) (acc : List (List UInt8)), (namesD x m c p acc).2.2 = 0 ∨ (namesD x m c p acc).2.2 = 5 ∨ (namesD x m c p acc).2.2 = m := by
  intro c
  induction c with
  | zero => intro p acc; exact .inl rfl
  | succ c ih =>
    intro p acc
    rw [namesD]
    split
    · exact .inr (.inr rfl)
    · split
      · exact .inr (.inl rfl)
      · split
        · exact .inr (.inr rfl)
        · split
          · exact .inr (.inl rfl)
          · exact ih _ _
theorem headD_which (x : List Int) (m : Nat) : (headD x m).2.2 = 0 ∨ (headD x m).2.2 = 5 ∨ (headD x m).2.2 = m := by
  unfold headD
  split
  · exact .inr (.inr rfl)
  · split
    · exact .inr (.inl rfl)
    · have h := namesD_which x m (byteAt x 4) 5 []
      unfold lastD
      split
      · exact h
      · split
        · exact .inr (.inr rfl)
        · split
          · exact .inr (.inl rfl)
          · exact .inl rfl
/-- A header that is wrong. -/
theorem recs_bad {b : List Int} {f : Nat} (hf : f ≤ b.length) (h : headE b f ≠ 0) : recordsF b f = (noTr, headE b f) ∧ (headE b f = 5 ∨ headE b f = 10) := by
  have hE : headE b f = (headD (b.take f) (if f < b.length then 10 else 5)).2.2 := rfl
  by_cases h1 : f < b.length
  · rw [if_pos h1] at hE
    rw [hE] at h ⊢
    refine ⟨?_, ?_⟩
    · unfold recordsF recordsC
      rw [if_pos h1, if_pos h]
    · rcases headD_which (b.take f) 10 with e | e | e
      · exact absurd e h
      · exact .inl e
      · exact .inr e
  · rw [if_neg h1, List.take_of_length_le (by omega)] at hE
    rw [hE] at h ⊢
    refine ⟨?_, ?_⟩
    · unfold recordsF recordsD
      rw [if_neg h1, if_pos h]
    · rcases headD_which b 5 with e | e | e
      · exact absurd e h
      · exact .inl e
      · exact .inl e
/-- A header that is right. -/
theorem recs_good {b : List Int} {f : Nat} (hf : f ≤ b.length) (h : headE b f = 0) : (recordsF b f).1.names = (headF b f).1 ∧ (recordsF b f).2 ≠ 0 ∧ (recordsF b f).2 ≠ 5 ∧ (recordsF b f).2 ≤ 20 ∧ ∀ e ∈ (recordsF b f).1.events, e.ids.length ≤ 64 := by
  have hE : headE b f = (headD (b.take f) (if f < b.length then 10 else 5)).2.2 := rfl
  have hF : headF b f = headD (b.take f) (if f < b.length then 10 else 5) := rfl
  by_cases h1 : f < b.length
  · rw [if_pos h1] at hE hF
    rw [hE] at h
    have hr := recs_which (b.take f) ((headD (b.take f) 10).1.length : Int) ((b.take f).length + 1) (headD (b.take f) 10).2.1 0 [] (fun e he => by cases he)
    have e1 : recordsF b f = (⟨(headD (b.take f) 10).1, (recsD (b.take f) (headD (b.take f) 10).1.length ((b.take f).length + 1) (headD (b.take f) 10).2.1 0 []).1⟩, mapE (recsD (b.take f) (headD (b.take f) 10).1.length ((b.take f).length + 1) (headD (b.take f) 10).2.1 0 []).2) := by
      unfold recordsF recordsC
      rw [if_pos h1, if_neg (by rw [h]; exact fun e => e rfl)]
    rw [e1, hF]
    obtain ⟨hr1, hr2⟩ := hr
    obtain ⟨q, hq⟩ : ∃ q, (recsD (b.take f) (headD (b.take f) 10).1.length ((b.take f).length + 1) (headD (b.take f) 10).2.1 0 []).2 = q := ⟨_, rfl⟩
    rw [hq] at hr1
    have hm : mapE q ≠ 0 ∧ mapE q ≠ 5 ∧ mapE q ≤ 20 := by
      unfold mapE
      split <;> omega
    simp only [hq]
    exact ⟨trivial, hm.1, hm.2.1, hm.2.2, hr2⟩
  · rw [if_neg h1, List.take_of_length_le (by omega)] at hE hF
    rw [hE] at h
    have hr := recs_which b ((headD b 5).1.length : Int) (b.length + 1) (headD b 5).2.1 0 [] (fun e he => by cases he)
    have e1 : recordsF b f = (⟨(headD b 5).1, (recsD b (headD b 5).1.length (b.length + 1) (headD b 5).2.1 0 []).1⟩, (recsD b (headD b 5).1.length (b.length + 1) (headD b 5).2.1 0 []).2) := by
      unfold recordsF recordsD
      rw [if_neg h1, if_neg (by rw [h]; exact fun e => e rfl)]
    rw [e1, hF]
    obtain ⟨hr1, hr2⟩ := hr
    exact ⟨rfl, by simp only; omega, by simp only; omega, by simp only; omega, hr2⟩

/-- A pool when it is made. -/
def startP (b : List Int) (f : Nat) (size : Int) : PS := ⟨(recordsF b f).1, (recordsF b f).2, size, [], 0⟩
def newE (b : List Int) (f : Nat) (size : Int) : Nat := if size < 1 then 1 else headE b f
/-- What a call that makes a pool leaves. -/
def GotPool (w : World) (er : Nat) (s : PS) (e : Ending) (w' : World) : Prop :=
  Below w.heap.size w w' ∧ ((er ≠ 0 ∧ e = .returned (.tuple #[.pointer none, .int .i64 (er : Nat)])) ∨
    (er = 0 ∧ ∃ g D, e = .returned (.tuple #[.pointer (some ⟨g, 0, none⟩), .int .i64 0]) ∧ RP w' g D s ∧ ∀ q, D q → w.heap.size ≤ q))
theorem start_ok {b : List Int} {f : Nat} {size : Int} (hf : f ≤ b.length) (h : newE b f size = 0) : OkP (startP b f size) := by
  unfold newE at h
  split at h
  · cases h
  · obtain ⟨-, h2, -, h4, h5⟩ := recs_good hf h
    exact ⟨(fun i k e => by cases e), (by show ((0 : Nat) : Int) ≤ size; omega), Nat.le_refl _, ⟨h2, h4⟩, h5⟩
theorem start_rp {w W : World} (T : TypeId) {NA EA : Option Addr} {nn nc ne ec er : Nat} {t : Tr} {size : Int} (hb : Below w.heap.size w W) (htr : TrOk (fun b => w.heap.size ≤ b) W NA nn nc EA ne ec t) (hna : ∀ a, NA = some a → 0 < t.names.length → w.heap.size ≤ a.block ∧ a.block < W.heap.size) :
    RP (W.alloc (.cells #[.slice NA nn nc, .slice EA ne ec, .int .i64 (er : Nat), .int .i64 size, .slice none 0 0, .slice none 0 0, .int .i64 0] T)) W.heap.size (fun q => w.heap.size ≤ q ∧ q ≤ W.heap.size) ⟨t, er, size, [], 0⟩ := by
  have hal := (Below.refl _ W).alloc (Nat.le_refl _) (.cells #[.slice NA nn nc, .slice EA ne ec, .int .i64 (er : Nat), .int .i64 size, .slice none 0 0, .slice none 0 0, .int .i64 0] T)
  have hs : (W.alloc (.cells #[.slice NA nn nc, .slice EA ne ec, .int .i64 (er : Nat), .int .i64 size, .slice none 0 0, .slice none 0 0, .int .i64 0] T)).heap.size = W.heap.size + 1 := by simp
  have ht2 : TrOk (fun q => (w.heap.size ≤ q ∧ q ≤ W.heap.size) ∧ q < W.heap.size) W NA nn nc EA ne ec t := ⟨htr.1, htr.2, htr.3, htr.4, htr.5.mono (fun q hq h1 => ⟨⟨h1, Nat.le_of_lt hq⟩, hq⟩), htr.6, htr.7⟩
  exact ⟨⟨NA, nn, nc, EA, ne, ec, .slice none 0 0, .slice none 0 0, [], Blk.new W _ T _ rfl, ht2.below hal, (fun a e h0 => ⟨⟨(hna a e h0).1, Nat.le_of_lt (hna a e h0).2⟩, (hna a e h0).2⟩), World.ownsRow_nil _ _ _ _, World.ownsRow_nil _ _ _ _, (fun i k e => by simp at e), (fun q e => by cases e), (fun q e => by cases e)⟩, ⟨hb.size, Nat.le_refl _⟩, fun q hq => by rw [hs]; have := hq.2; omega⟩

end Go.Proofs.Ytimbbfneaaglbaa.Heads
