/-
  The reference's sees, takes, number, each in one contract, behind an error or not. The reference's bad and makes, each in one contract. What each part of the reference's reader leaves, in plain lists. What the reference's parts leave, word by word: rounds, operands, brackets, braces. What the reference's braces and span leave.
    Made of several texts by wip/tools/mergetpl.py. By an AI agent.
-/
import Derived.Test.YtnoghlhggeffnaaGreatDoorGParseSpoilt28
import Derived.Test.YtnoghlhggeffnaaGreatDoorGParseSpoilt25
/- The reference's sees, takes, number, each in one contract, behind an error or not. By an AI agent. -/
namespace Go.Proofs.YtnoghlhggeffnaaGreatDoor.Parse
open Go.RowKit Go.Proofs.YtnoghlhggeffnaaGreatDoor.Ints Go.Proofs.YtnoghlhggeffnaaGreatDoor.Lex Go.Proofs.YtnoghlhggeffnaaGreatDoor.Tree

def seesB (k : Nat) (u : List UInt8) (σ : RS) : Bool := match σ.rest with
  | t :: _ => decide (σ.err = 0) && (decide (t.kind = k) && decide (t.text = u))
  | [] => false
def takesF (u : List UInt8) (σ : RS) : RS := if σ.err ≠ 0 then σ else match σ.rest with
  | t :: r => if t.kind = 3 ∧ t.text = u then { σ with rest := r } else { σ with err := 2, wh := t.pos }
  | [] => σ
def numF (x : Int) (σ : RS) : RS := if σ.err ≠ 0 then σ else match σ.rest with
  | t :: r => numR x t r σ
  | [] => σ
def numX (x : Int) (σ : RS) : Int := if σ.err ≠ 0 then 0 else match σ.rest with
  | t :: _ => numV x t
  | [] => 0
theorem refSeesU {Pr : Nat → Prop} (base g : Nat) (ts : List Tk) (σ : RS) (k : Nat) (u : List UInt8) (w : World) (h : RMemE Pr w base g ts σ) (hne : σ.err = 0 → σ.rest ≠ []) (hl : ts.length ≤ 5000) :
    Calls Tryz.prog 56 #[.pointer (some ⟨g, 0, none⟩), .int .i64 (k : Int), .string (Lex.bytes u)] w fun e w' => e = .returned (.bool (seesB k u σ)) ∧ Below w.heap.size w w' := by
  by_cases he : σ.err = 0
  · cases hr : σ.rest with
    | nil => exact absurd hr (hne he)
    | cons t r =>
      rw [show seesB k u σ = (decide (t.kind = k) && decide (t.text = u)) by unfold seesB; rw [hr]; simp [he]]
      exact refSees base g ts σ t r k u w h he hr hl
  · rw [show seesB k u σ = false by unfold seesB; split <;> simp [he]]
    exact refSeesN base g ts σ k u w h he
theorem refTakesU {Pr : Nat → Prop} (base g : Nat) (ts : List Tk) (σ : RS) (u : List UInt8) (w : World) (h : RMemE Pr w base g ts σ) (hne : σ.err = 0 → σ.rest ≠ []) (hl : ts.length ≤ 5000) :
    Calls Tryz.prog 111 #[.pointer (some ⟨g, 0, none⟩), .string (Lex.bytes u)] w fun e w' => e = .returned (.tuple #[]) ∧ RMemE Pr w' base g ts (takesF u σ) ∧ w.grownBy w' (some g) := by
  by_cases he : σ.err = 0
  · cases hr : σ.rest with
    | nil => exact absurd hr (hne he)
    | cons t r =>
      rw [show takesF u σ = (if t.kind = 3 ∧ t.text = u then { σ with rest := r } else { σ with err := 2, wh := t.pos }) by unfold takesF; rw [if_neg (by simp [he]), hr]]
      exact refTakes base g ts σ t r u w h he hr hl
  · rw [show takesF u σ = σ by unfold takesF; rw [if_pos he]]
    refine (refTakesN base g ts σ (Lex.bytes u) w h he).mono ?_
    rintro e w' ⟨rfl, rfl⟩
    exact ⟨rfl, h, grown_of_below (Below.refl _ _)⟩
theorem refNumberU {Pr : Nat → Prop} (base g : Nat) (ts : List Tk) (σ : RS) (x : Int) (w : World) (h : RMemE Pr w base g ts σ) (hne : σ.err = 0 → σ.rest ≠ []) (hl : ts.length ≤ 5000) :
    Calls Tryz.prog 110 #[.pointer (some ⟨g, 0, none⟩), .int .i64 x] w fun e w' => e = .returned (.int .i64 (numX x σ)) ∧ RMemE Pr w' base g ts (numF x σ) ∧ w.grownBy w' (some g) := by
  by_cases he : σ.err = 0
  · cases hr : σ.rest with
    | nil => exact absurd hr (hne he)
    | cons t r =>
      rw [show numX x σ = numV x t by unfold numX; rw [if_neg (by simp [he]), hr], show numF x σ = numR x t r σ by unfold numF; rw [if_neg (by simp [he]), hr]]
      exact refNumber base g ts σ t r x w h he hr hl
  · rw [show numX x σ = 0 by unfold numX; rw [if_pos he], show numF x σ = σ by unfold numF; rw [if_pos he]]
    refine (refNumberN base g ts σ x w h he).mono ?_
    rintro e w' ⟨rfl, rfl⟩
    exact ⟨rfl, h, grown_of_below (Below.refl _ _)⟩
end Go.Proofs.YtnoghlhggeffnaaGreatDoor.Parse

/- The reference's bad and makes, each in one contract. By an AI agent. -/
namespace Go.Proofs.YtnoghlhggeffnaaGreatDoor.Parse
open Go.RowKit Go.Proofs.YtnoghlhggeffnaaGreatDoor.Ints Go.Proofs.YtnoghlhggeffnaaGreatDoor.Lex Go.Proofs.YtnoghlhggeffnaaGreatDoor.Tree

def badF (c : Nat) (σ : RS) : RS := if σ.err ≠ 0 then σ else match σ.rest with
  | t :: _ => { σ with err := c, wh := t.pos }
  | [] => σ
def makesF (a b : Bool) (σ : RS) : RS := if σ.err ≠ 0 then σ else match σ.rest with
  | t :: r => makesR a b t r σ
  | [] => σ
theorem refBadU {Pr : Nat → Prop} (base g : Nat) (ts : List Tk) (σ : RS) (c : Nat) (w : World) (h : RMemE Pr w base g ts σ) (hne : σ.err = 0 → σ.rest ≠ []) (hl : ts.length ≤ 5000) :
    Calls Tryz.prog 45 #[.pointer (some ⟨g, 0, none⟩), .int .i64 (c : Int)] w fun e w' => e = .returned (.tuple #[]) ∧ RMemE Pr w' base g ts (badF c σ) ∧ w.grownBy w' (some g) := by
  by_cases he : σ.err = 0
  · cases hr : σ.rest with
    | nil => exact absurd hr (hne he)
    | cons t r =>
      rw [show badF c σ = { σ with err := c, wh := t.pos } by unfold badF; rw [if_neg (by simp [he]), hr]]
      exact refBad0 base g ts σ t r c w h he hr hl
  · rw [show badF c σ = σ by unfold badF; rw [if_pos he]]
    refine (refBadN base g ts σ c w h he).mono ?_
    rintro e w' ⟨rfl, rfl⟩
    exact ⟨rfl, h, grown_of_below (Below.refl _ _)⟩
/-- makes, for each of the three ways it is called. -/
theorem refMakesU {Pr : Nat → Prop} (base g : Nat) (ts : List Tk) (σ : RS) (a b : Bool) (hab : a = true ∨ b = true) (w : World) (h : RMemE Pr w base g ts σ) (hne : σ.err = 0 → σ.rest ≠ [] ∧ (∃ d : Nat, σ.deep = (d : Int) ∧ d ≤ 40) ∧ σ.made ≤ 200) (hl : ts.length ≤ 5000) :
    Calls Tryz.prog 57 #[.pointer (some ⟨g, 0, none⟩), .bool a, .bool b] w fun e w' => e = .returned (.tuple #[]) ∧ RMemE Pr w' base g ts (makesF a b σ) ∧ w.grownBy w' (some g) := by
  by_cases he : σ.err = 0
  · obtain ⟨h1, ⟨d, hd, hd4⟩, hm⟩ := hne he
    cases hr : σ.rest with
    | nil => exact absurd hr h1
    | cons t r =>
      rw [show makesF a b σ = makesR a b t r σ by unfold makesF; rw [if_neg (by simp [he]), hr]]
      cases a <;> cases b
      · simp at hab
      · exact refMakes_false_true base g ts σ t r d w h he hr hl hd hd4 hm
      · exact refMakes_true_false base g ts σ t r d w h he hr hl hd hd4 hm
      · exact refMakes_true_true base g ts σ t r d w h he hr hl hd hd4 hm
  · rw [show makesF a b σ = σ by unfold makesF; rw [if_pos he]]
    refine (refMakesN base g ts σ a b w h he).mono ?_
    rintro e w' ⟨rfl, rfl⟩
    exact ⟨rfl, h, grown_of_below (Below.refl _ _)⟩
end Go.Proofs.YtnoghlhggeffnaaGreatDoor.Parse

/- What each part of the reference's reader leaves, in plain lists. By an AI agent. -/
namespace Go.Proofs.YtnoghlhggeffnaaGreatDoor.Parse
open Go.Proofs.YtnoghlhggeffnaaGreatDoor.Lex Go.Proofs.YtnoghlhggeffnaaGreatDoor.Tree

/-- The reader may go on. -/
structure Ready (σ : RS) : Prop where
  good : σ.err = 0 → GoodT σ.rest ∧ 0 ≤ σ.deep ∧ σ.deep ≤ 40 ∧ σ.made ≤ 200
  deep : -2 ≤ σ.deep ∧ σ.deep ≤ 42
  room : σ.nodes.length + σ.rest.length ≤ 50000
theorem Ready.some {σ : RS} (h : Ready σ) (he : σ.err = 0) : σ.rest ≠ [] := by
  obtain ⟨t, r, h1, -⟩ := (h.good he).1.split
  rw [h1]
  exact List.cons_ne_nil _ _
def MakeOk (σ : RS) : Prop := σ.err = 0 → σ.rest ≠ [] ∧ (∃ d : Nat, σ.deep = (d : Int) ∧ d ≤ 40) ∧ σ.made ≤ 200
theorem Ready.make {σ : RS} (h : Ready σ) : MakeOk σ := fun he => by
  obtain ⟨h1, h2, h3, h4⟩ := h.good he
  exact ⟨h.some he, ⟨σ.deep.toNat, by omega, by omega⟩, h4⟩

/-- A part was read. -/
structure Done (nt : NT) (σ : RS) (v : Int) (σ' : RS) : Prop where
  err : σ'.err = 0
  deep : σ'.deep = σ.deep
  good : GoodT σ'.rest
  made : σ'.made ≤ 200
  room : σ'.nodes.length + σ'.rest.length ≤ σ.nodes.length + σ.rest.length
  less : σ'.rest.length ≤ σ.rest.length
  d : D nt σ.deep.toNat ⟨σ.rest, σ.made, σ.nodes⟩ (.ok ⟨σ'.rest, σ'.made, σ'.nodes⟩ v)
/-- A part is wrong. -/
structure Fell (nt : NT) (σ σ' : RS) : Prop where
  err : σ'.err ≠ 0
  deep : σ.deep - 1 ≤ σ'.deep ∧ σ'.deep ≤ σ.deep
  room : σ'.nodes.length + σ'.rest.length ≤ σ.nodes.length + σ.rest.length + 1
  d : D nt σ.deep.toNat ⟨σ.rest, σ.made, σ.nodes⟩ (.bad σ'.err σ'.wh)
structure Post (nt : NT) (σ : RS) (v : Int) (σ' : RS) : Prop where
  val : 0 ≤ v ∧ v ≤ 100000
  was : σ.err ≠ 0 → σ' = σ ∧ v = 0
  now : σ.err = 0 → Done nt σ v σ' ∨ Fell nt σ σ'
/-- What a loop's round leaves. -/
structure Open (nt : NT) (st : Int → NT) (σ0 σ : RS) (a : Int) : Prop where
  err : σ.err = 0
  deep : σ.deep = σ0.deep
  good : GoodT σ.rest
  made : σ.made ≤ 200
  room : σ.nodes.length + σ.rest.length ≤ σ0.nodes.length + σ0.rest.length
  less : σ.rest.length ≤ σ0.rest.length
  d : ∀ o, D (st a) σ0.deep.toNat ⟨σ.rest, σ.made, σ.nodes⟩ o → D nt σ0.deep.toNat ⟨σ0.rest, σ0.made, σ0.nodes⟩ o
structure Loop (nt : NT) (st : Int → NT) (σ0 σ : RS) (a : Int) : Prop where
  val : 0 ≤ a ∧ a ≤ 100000
  was : σ0.err ≠ 0 → σ = σ0 ∧ a = 0
  now : σ0.err = 0 → Open nt st σ0 σ a ∨ Fell nt σ0 σ
theorem Post.done {nt : NT} {σ σ' : RS} {v : Int} (h : Post nt σ v σ') (he : σ.err = 0) (he' : σ'.err = 0) : Done nt σ v σ' := (h.now he).elim id fun h => absurd he' h.err
theorem Post.fell {nt : NT} {σ σ' : RS} {v : Int} (h : Post nt σ v σ') (he : σ.err = 0) (he' : σ'.err ≠ 0) : Fell nt σ σ' := (h.now he).elim (fun h => absurd h.err he') id
theorem post_was {nt : NT} {σ : RS} (he : σ.err ≠ 0) : Post nt σ 0 σ := ⟨by omega, fun _ => ⟨rfl, rfl⟩, fun h => absurd h he⟩
/-- A part that is another one. -/
theorem Post.as {n1 n2 : NT} {σ σ' : RS} {v : Int} (h : Post n1 σ v σ') (hd : ∀ d s o, D n1 d s o → D n2 d s o) : Post n2 σ v σ' :=
  ⟨h.val, h.was, fun he => (h.now he).elim (fun k => Or.inl ⟨k.err, k.deep, k.good, k.made, k.room, k.less, hd _ _ _ k.d⟩) (fun k => Or.inr ⟨k.err, k.deep, k.room, hd _ _ _ k.d⟩)⟩
theorem Post.start {n1 nt : NT} {st : Int → NT} {σ σ' : RS} {v : Int} (h : Post n1 σ v σ') (hbad : ∀ d s c p, D n1 d s (.bad c p) → D nt d s (.bad c p)) (hok : ∀ d s s1 a o, D n1 d s (.ok s1 a) → D (st a) d s1 o → D nt d s o) : Loop nt st σ σ' v :=
  ⟨h.val, h.was, fun he => (h.now he).elim (fun k => Or.inl ⟨k.err, k.deep, k.good, k.made, k.room, k.less, fun _ ho => hok _ _ _ _ _ k.d ho⟩) (fun k => Or.inr ⟨k.err, k.deep, k.room, hbad _ _ _ _ k.d⟩)⟩
theorem Post.startRow {g : Bool} {l : Nat} {σ σ' : RS} {v : Int} (hl : l < lvl g) (h : Post (.row g (l + 1)) σ v σ') : Loop (.row g l) (.ops g l) σ σ' v :=
  h.start (fun _ _ _ _ k => .rowBad hl k) (fun _ _ _ _ _ k m => .row hl k m)
theorem Post.startRep {σ σ' : RS} {v : Int} (h : Post (.opd true) σ v σ') : Loop .rep .stars σ σ' v :=
  h.start (fun _ _ _ _ k => .repBad k) (fun _ _ _ _ _ k m => .rep k m)
theorem Loop.stop {nt : NT} {st : Int → NT} {σ0 σ : RS} {a : Int} (h : Loop nt st σ0 σ a) (hs : σ.err = 0 → ∀ d, D (st a) d ⟨σ.rest, σ.made, σ.nodes⟩ (.ok ⟨σ.rest, σ.made, σ.nodes⟩ a)) : Post nt σ0 a σ :=
  ⟨h.val, h.was, fun he => (h.now he).elim (fun k => Or.inl ⟨k.err, k.deep, k.good, k.made, k.room, k.less, k.d _ (hs k.err _)⟩) Or.inr⟩
theorem Loop.open {nt : NT} {st : Int → NT} {σ0 σ : RS} {a : Int} (h : Loop nt st σ0 σ a) (he : σ.err = 0) : Open nt st σ0 σ a ∧ σ0.err = 0 := by
  by_cases h0 : σ0.err = 0
  · exact ⟨(h.now h0).elim id fun k => absurd he k.err, h0⟩
  · rw [(h.was h0).1] at he
    exact absurd he h0
theorem Open.ready {nt : NT} {st : Int → NT} {σ0 σ : RS} {a : Int} (h : Open nt st σ0 σ a) (hr : Ready σ0) (he : σ0.err = 0) : Ready σ := by
  obtain ⟨h1, h2, h3, h4⟩ := hr.good he
  have := hr.room
  have h5 := h.room
  have h6 := h.deep
  exact ⟨fun _ => ⟨h.good, by omega, by omega, h.made⟩, by omega, by omega⟩
theorem Loop.some {nt : NT} {st : Int → NT} {σ0 σ : RS} {a : Int} (h : Loop nt st σ0 σ a) (hr : Ready σ0) : σ.err = 0 → σ.rest ≠ [] := fun he => ((h.open he).1.ready hr (h.open he).2).some he

/-- The next token's kind hangs on its text. -/
theorem sees_sign {σ : RS} {c : UInt8} {u : List UInt8} (he : σ.err = 0) (hg : GoodT σ.rest) (hc : small c = false) : seesB 3 (c :: u) σ = decide (textOf σ.rest = c :: u) := by
  obtain ⟨t, r, h1, h2, -⟩ := hg.split
  unfold seesB
  rw [h1]
  show (decide (σ.err = 0) && (decide (t.kind = 3) && decide (t.text = c :: u))) = decide (t.text = c :: u)
  rw [he, decide_eq_true rfl, Bool.true_and]
  by_cases hu : t.text = c :: u
  · rcases h2 with ⟨h2, -⟩ | ⟨-, c', r', h3, h4⟩ | ⟨-, h3⟩
    · rw [h2, hu]; simp
    · rw [hu] at h3; injection h3 with h3; rw [← h3, hc] at h4; cases h4
    · rw [hu] at h3; cases h3
  · rw [decide_eq_false hu, Bool.and_false]
theorem sees_word {σ : RS} {c : UInt8} {u : List UInt8} (he : σ.err = 0) (hg : GoodT σ.rest) (hc : small c = true) : seesB 1 (c :: u) σ = decide (textOf σ.rest = c :: u) := by
  obtain ⟨t, r, h1, h2, -⟩ := hg.split
  unfold seesB
  rw [h1]
  show (decide (σ.err = 0) && (decide (t.kind = 1) && decide (t.text = c :: u))) = decide (t.text = c :: u)
  rw [he, decide_eq_true rfl, Bool.true_and]
  by_cases hu : t.text = c :: u
  · rcases h2 with ⟨-, c', r', h3, h4⟩ | ⟨h2, -⟩ | ⟨-, h3⟩
    · rw [hu] at h3; injection h3 with h3; rw [← h3, hc] at h4; cases h4
    · rw [h2, hu]; simp
    · rw [hu] at h3; cases h3
  · rw [decide_eq_false hu, Bool.and_false]
theorem sees_err {σ : RS} {k : Nat} {u : List UInt8} (he : σ.err ≠ 0) : seesB k u σ = false := by
  unfold seesB
  split <;> simp [he]
theorem sees_yes {σ : RS} {k : Nat} {u : List UInt8} (h : seesB k u σ = true) : σ.err = 0 ∧ textOf σ.rest = u := by
  unfold seesB at h
  split at h
  · next t r hr =>
    rw [Bool.and_eq_true, Bool.and_eq_true, decide_eq_true_eq, decide_eq_true_eq, decide_eq_true_eq] at h
    exact ⟨h.1, by rw [hr]; exact h.2.2⟩
  · cases h

theorem tail_len {l : List Tk} (h : l ≠ []) : l.tail.length + 1 = l.length := by
  cases l with
  | nil => exact absurd rfl h
  | cons t r => rfl
theorem text_some {l : List Tk} (h : textOf l ≠ []) : l ≠ [] := fun e => h (by rw [e]; rfl)
theorem makes_nf {σ : RS} (he : σ.err = 0) (hm : σ.made ≤ 200) (hr : σ.rest ≠ []) :
    (σ.made = 200 ∧ makesF true false σ = { σ with made := 201, err := 4, wh := posOf σ.rest }) ∨ (σ.made ≠ 200 ∧ makesF true false σ = { σ with made := σ.made + 1, rest := σ.rest.tail }) := by
  obtain ⟨rs, ns, md, dp, er, wh⟩ := σ
  have he : er = 0 := he
  subst he
  cases rs with
  | nil => exact absurd rfl hr
  | cons t r =>
    have e : makesF true false ⟨t :: r, ns, md, dp, 0, wh⟩ = makesR true false t r ⟨t :: r, ns, md, dp, 0, wh⟩ := rfl
    have hm : md ≤ 200 := hm
    rw [e, makes_flat rfl, if_pos rfl]
    unfold nodeR
    by_cases h2 : md = 200
    · subst h2
      exact Or.inl ⟨rfl, if_neg (by show ¬ 200 + 1 ≤ 200; omega)⟩
    · exact Or.inr ⟨h2, if_pos (by show md + 1 ≤ 200; omega)⟩
theorem makes_nd {σ : RS} (he : σ.err = 0) (hm : σ.made ≤ 200) (hd : σ.deep ≤ 40) (hr : σ.rest ≠ []) :
    (σ.deep = 40 ∧ makesF true true σ = { σ with deep := 41, err := 3, wh := posOf σ.rest }) ∨ (σ.deep ≠ 40 ∧ σ.made = 200 ∧ makesF true true σ = { σ with deep := σ.deep + 1, made := 201, err := 4, wh := posOf σ.rest }) ∨
    (σ.deep ≠ 40 ∧ σ.made ≠ 200 ∧ makesF true true σ = { σ with deep := σ.deep + 1, made := σ.made + 1, rest := σ.rest.tail }) := by
  obtain ⟨rs, ns, md, dp, er, wh⟩ := σ
  have he : er = 0 := he
  subst he
  cases rs with
  | nil => exact absurd rfl hr
  | cons t r =>
    have e : makesF true true ⟨t :: r, ns, md, dp, 0, wh⟩ = makesR true true t r ⟨t :: r, ns, md, dp, 0, wh⟩ := rfl
    have hm : md ≤ 200 := hm
    have hd : dp ≤ 40 := hd
    rw [e]
    by_cases h1 : dp = 40
    · subst h1
      exact Or.inl ⟨rfl, makes_over (by show ¬ (40 : Int) + 1 ≤ 40; omega)⟩
    · right
      rw [makes_down rfl (by show dp + 1 ≤ 40; omega), if_pos rfl]
      unfold nodeR
      by_cases h2 : md = 200
      · subst h2
        exact Or.inl ⟨h1, rfl, if_neg (by show ¬ 200 + 1 ≤ 200; omega)⟩
      · exact Or.inr ⟨h1, h2, if_pos (by show md + 1 ≤ 200; omega)⟩
theorem makes_fd {σ : RS} (he : σ.err = 0) (hd : σ.deep ≤ 40) (hr : σ.rest ≠ []) :
    (σ.deep = 40 ∧ makesF false true σ = { σ with deep := 41, err := 3, wh := posOf σ.rest }) ∨ (σ.deep ≠ 40 ∧ makesF false true σ = { σ with deep := σ.deep + 1, rest := σ.rest.tail }) := by
  obtain ⟨rs, ns, md, dp, er, wh⟩ := σ
  have he : er = 0 := he
  subst he
  cases rs with
  | nil => exact absurd rfl hr
  | cons t r =>
    have e : makesF false true ⟨t :: r, ns, md, dp, 0, wh⟩ = makesR false true t r ⟨t :: r, ns, md, dp, 0, wh⟩ := rfl
    have hd : dp ≤ 40 := hd
    rw [e]
    by_cases h1 : dp = 40
    · subst h1
      exact Or.inl ⟨rfl, makes_over (by show ¬ (40 : Int) + 1 ≤ 40; omega)⟩
    · right
      rw [makes_down rfl (by show dp + 1 ≤ 40; omega), if_neg (by decide)]
      exact ⟨h1, rfl⟩
theorem makes_err {σ : RS} {a b : Bool} (he : σ.err ≠ 0) : makesF a b σ = σ := if_pos he
theorem takes_err {σ : RS} {u : List UInt8} (he : σ.err ≠ 0) : takesF u σ = σ := if_pos he
theorem bad_err {σ : RS} {c : Nat} (he : σ.err ≠ 0) : badF c σ = σ := if_pos he
theorem bad_go {σ : RS} {c : Nat} (he : σ.err = 0) (hr : σ.rest ≠ []) : badF c σ = { σ with err := c, wh := posOf σ.rest } := by
  unfold badF
  rw [if_neg (by simp [he])]
  cases h : σ.rest with
  | nil => exact absurd h hr
  | cons t r => rfl
theorem takes_go {σ : RS} {c : UInt8} {u : List UInt8} (he : σ.err = 0) (hg : GoodT σ.rest) (hc : small c = false) :
    takesF (c :: u) σ = if textOf σ.rest = c :: u then { σ with rest := σ.rest.tail } else { σ with err := 2, wh := posOf σ.rest } := by
  obtain ⟨t, r, h1, h2, -⟩ := hg.split
  unfold takesF
  rw [if_neg (by simp [he]), h1]
  show (if t.kind = 3 ∧ t.text = c :: u then _ else _) = (if t.text = c :: u then _ else _)
  by_cases hu : t.text = c :: u
  · have hk : t.kind = 3 := by
      rcases h2 with ⟨h2, -⟩ | ⟨-, c', r', h3, h4⟩ | ⟨-, h3⟩
      · exact h2
      · rw [hu] at h3; injection h3 with h3; rw [← h3, hc] at h4; cases h4
      · rw [hu] at h3; cases h3
    rw [if_pos ⟨hk, hu⟩, if_pos hu]
    rfl
  · rw [if_neg (fun h => hu h.2), if_neg hu]
    rfl
end Go.Proofs.YtnoghlhggeffnaaGreatDoor.Parse

/- What the reference's parts leave, word by word: rounds, operands, brackets, braces. By an AI agent. -/
namespace Go.Proofs.YtnoghlhggeffnaaGreatDoor.Parse
open Go.Proofs.YtnoghlhggeffnaaGreatDoor.Lex Go.Proofs.YtnoghlhggeffnaaGreatDoor.Tree

/-- What span leaves, for a node of kind k. -/
structure SpanPost (k : Nat) (σ : RS) (lo hi : Int) (σ' : RS) : Prop where
  small : small64 lo ∧ small64 hi
  was : σ.err ≠ 0 → σ' = σ
  now : σ.err = 0 → (σ'.err = 0 ∧ spanM k σ.rest = .ok (lo, hi, σ'.rest) ∧ σ' = { σ with rest := σ'.rest } ∧ GoodT σ'.rest ∧ σ'.rest.length ≤ σ.rest.length) ∨
    (σ'.err ≠ 0 ∧ spanM k σ.rest = .error (σ'.err, σ'.wh) ∧ σ' = { σ with rest := σ'.rest, err := σ'.err, wh := σ'.wh } ∧ σ'.rest.length ≤ σ.rest.length)
theorem spanR_none {k : Nat} {σ : RS} (hk : k < 8 ∨ 17 < k) (hr : Ready σ) : SpanPost k σ 0 0 σ :=
  ⟨by unfold small64; omega, fun _ => rfl, fun he => Or.inl ⟨he, by unfold spanM; rw [if_pos hk], rfl, (hr.good he).1, Nat.le_refl _⟩⟩
theorem SpanPost.ready {k : Nat} {σ σ' : RS} {lo hi : Int} (h : SpanPost k σ lo hi σ') (hr : Ready σ) : Ready σ' ∧ (σ'.err = 0 → σ.err = 0 ∧ σ'.rest.length ≤ σ.rest.length) := by
  by_cases he : σ.err = 0
  · have hro := hr.room
    rcases h.now he with ⟨h1, -, h3, h4, h5⟩ | ⟨h1, -, h3, h5⟩
    · refine ⟨⟨fun _ => ⟨h4, ?_⟩, ?_, ?_⟩, fun _ => ⟨he, h5⟩⟩
      · rw [h3]; exact (hr.good he).2
      · rw [h3]; exact hr.deep
      · rw [congrArg RS.nodes h3]; show σ.nodes.length + _ ≤ _; omega
    · refine ⟨⟨fun e => absurd e h1, ?_, ?_⟩, fun e => absurd e h1⟩
      · rw [h3]; exact hr.deep
      · rw [congrArg RS.nodes h3]; show σ.nodes.length + _ ≤ _; omega
  · rw [h.was he]
    exact ⟨hr, fun e => absurd e he⟩

theorem make_ready {σ : RS} {a b : Bool} (hab : a = true ∨ b = true) (hr : Ready σ) (ht : σ.err = 0 → textOf σ.rest ≠ []) : Ready (makesF a b σ) ∧ ((makesF a b σ).err = 0 → σ.err = 0 ∧ (makesF a b σ).rest.length < σ.rest.length) := by
  by_cases he : σ.err = 0
  · obtain ⟨h1, h2, h3, h4⟩ := hr.good he
    have hs := hr.some he
    have hl := tail_len hs
    have hro := hr.room
    have hg := h1.next (ht he)
    cases a <;> cases b
    · simp at hab
    · rcases makes_fd he h3 hs with ⟨h5, h6⟩ | ⟨h5, h6⟩
      · rw [h6]
        exact ⟨⟨fun e => absurd e (by show (3 : Nat) ≠ 0; omega), by show (-2 : Int) ≤ 41 ∧ (41 : Int) ≤ 42; omega, hro⟩, fun e => absurd e (by show (3 : Nat) ≠ 0; omega)⟩
      · rw [h6]
        exact ⟨⟨fun _ => ⟨hg, by show 0 ≤ σ.deep + 1; omega, by show σ.deep + 1 ≤ 40; omega, h4⟩, by show -2 ≤ σ.deep + 1 ∧ σ.deep + 1 ≤ 42; omega, by show σ.nodes.length + σ.rest.tail.length ≤ 50000; omega⟩, fun _ => ⟨he, by show σ.rest.tail.length < _; omega⟩⟩
    · rcases makes_nf he h4 hs with ⟨h5, h6⟩ | ⟨h5, h6⟩
      · rw [h6]
        exact ⟨⟨fun e => absurd e (by show (4 : Nat) ≠ 0; omega), hr.deep, hro⟩, fun e => absurd e (by show (4 : Nat) ≠ 0; omega)⟩
      · rw [h6]
        exact ⟨⟨fun _ => ⟨hg, h2, h3, by show σ.made + 1 ≤ 200; omega⟩, hr.deep, by show σ.nodes.length + σ.rest.tail.length ≤ 50000; omega⟩, fun _ => ⟨he, by show σ.rest.tail.length < _; omega⟩⟩
    · rcases makes_nd he h4 h3 hs with ⟨h5, h6⟩ | ⟨h5, h7, h6⟩ | ⟨h5, h7, h6⟩
      · rw [h6]
        exact ⟨⟨fun e => absurd e (by show (3 : Nat) ≠ 0; omega), by show (-2 : Int) ≤ 41 ∧ (41 : Int) ≤ 42; omega, hro⟩, fun e => absurd e (by show (3 : Nat) ≠ 0; omega)⟩
      · rw [h6]
        exact ⟨⟨fun e => absurd e (by show (4 : Nat) ≠ 0; omega), by show -2 ≤ σ.deep + 1 ∧ σ.deep + 1 ≤ 42; omega, hro⟩, fun e => absurd e (by show (4 : Nat) ≠ 0; omega)⟩
      · rw [h6]
        exact ⟨⟨fun _ => ⟨hg, by show 0 ≤ σ.deep + 1; omega, by show σ.deep + 1 ≤ 40; omega, by show σ.made + 1 ≤ 200; omega⟩, by show -2 ≤ σ.deep + 1 ∧ σ.deep + 1 ≤ 42; omega, by show σ.nodes.length + σ.rest.tail.length ≤ 50000; omega⟩, fun _ => ⟨he, by show σ.rest.tail.length < _; omega⟩⟩
  · rw [makes_err he]
    exact ⟨hr, fun e => absurd e he⟩

/-- One more operand of a row. -/
theorem ops_round {g : Bool} {l k : Nat} {σ0 σ : RS} {a : Int} (h : Loop (.row g l) (.ops g l) σ0 σ a) (hr0 : Ready σ0) (he : σ.err = 0) (hk : opOf g l (textOf σ.rest) = k) (hk0 : k ≠ 0) (_ht : textOf σ.rest ≠ []) {lo hi b : Int} {σ2 σ3 : RS}
    (hs : SpanPost k (makesF true false σ) lo hi σ2) (hp : Post (.row g (l + 1)) σ2 b σ3) : Loop (.row g l) (.ops g l) σ0 { σ3 with nodes := σ3.nodes ++ [nd1 k lo hi [a, b]] } (σ3.nodes.length : Int) ∧ σ3.nodes.length ≤ 60000 ∧ (σ3.err = 0 → σ3.rest.length < σ.rest.length) := by
  obtain ⟨ho, he0⟩ := h.open he
  have hr := ho.ready hr0 he0
  obtain ⟨h1, h2, h3, h4⟩ := hr.good he
  have hsm := hr.some he
  have hl := tail_len hsm
  have hro := hr.room
  have hro2 := ho.room
  have hle := ho.less
  have hde := ho.deep
  subst hk
  have hlen : ∀ (m : List Nd) (x : Nd), (m ++ [x]).length = m.length + 1 := fun m x => by rw [List.length_append]; rfl
  rcases makes_nf he h4 hsm with ⟨h5, h6⟩ | ⟨h5, h6⟩
  · have e1 : (makesF true false σ).err ≠ 0 := by rw [h6]; show (4 : Nat) ≠ 0; omega
    have e2 := hs.was e1
    have e3 := hp.was (by rw [e2]; exact e1)
    rw [e2, h6] at e3
    rw [e3.1]
    refine ⟨⟨by show 0 ≤ (σ.nodes.length : Int) ∧ (σ.nodes.length : Int) ≤ 100000; omega, fun e => absurd he0 e, fun _ => Or.inr ⟨by show (4 : Nat) ≠ 0; omega, by show σ0.deep - 1 ≤ σ.deep ∧ σ.deep ≤ σ0.deep; omega, ?_, ?_⟩⟩, by show σ.nodes.length ≤ 60000; omega, fun e => absurd e (by show (4 : Nat) ≠ 0; omega)⟩
    · show (σ.nodes ++ [_]).length + σ.rest.length ≤ _
      rw [hlen]; omega
    · exact ho.d _ (.opsMany hk0 h5)
  · have e1 : (makesF true false σ).err = 0 := by rw [h6]; exact he
    rcases hs.now e1 with ⟨g1, g2, g3, g4, g5⟩ | ⟨g1, g2, g3, g5⟩
    · rw [h6] at g2 g3 g5
      have f1 : σ2.made = σ.made + 1 := by rw [g3]
      have f2 : σ2.nodes = σ.nodes := by rw [g3]
      have f3 : σ2.deep = σ.deep := by rw [g3]
      have g5 : σ2.rest.length ≤ σ.rest.tail.length := g5
      rcases hp.now g1 with kd | kf
      · have p1 := kd.room
        have p2 := kd.less
        have p3 := kd.d
        have p4 := kd.deep
        rw [f2] at p1
        rw [f1, f2, f3, hde] at p3
        refine ⟨⟨by show 0 ≤ (σ3.nodes.length : Int) ∧ (σ3.nodes.length : Int) ≤ 100000; omega, fun e => absurd he0 e, fun _ => Or.inl ⟨kd.err, by show σ3.deep = _; rw [p4, f3, hde], kd.good, kd.made, ?_, by show σ3.rest.length ≤ _; omega, fun o hd => ?_⟩⟩, by omega, fun _ => by omega⟩
        · show (σ3.nodes ++ [_]).length + σ3.rest.length ≤ _
          rw [hlen]; omega
        · exact ho.d _ (.opsGo hk0 h5 g2 p3 hd)
      · have p1 := kf.room
        have p2 := kf.deep
        have p3 := kf.d
        rw [f2] at p1
        rw [f1, f2, f3, hde] at p3
        refine ⟨⟨by show 0 ≤ (σ3.nodes.length : Int) ∧ (σ3.nodes.length : Int) ≤ 100000; omega, fun e => absurd he0 e, fun _ => Or.inr ⟨kf.err, by show σ0.deep - 1 ≤ σ3.deep ∧ σ3.deep ≤ σ0.deep; omega, ?_, ?_⟩⟩, by omega, fun e => absurd e kf.err⟩
        · show (σ3.nodes ++ [_]).length + σ3.rest.length ≤ _
          rw [hlen]; omega
        · exact ho.d _ (.opsBad hk0 h5 g2 p3)
    · have e3 := hp.was g1
      rw [h6] at g2 g3 g5
      have f2 : σ2.nodes = σ.nodes := by rw [g3]
      have f3 : σ2.deep = σ.deep := by rw [g3]
      have g5 : σ2.rest.length ≤ σ.rest.tail.length := g5
      rw [e3.1, f2]
      refine ⟨⟨by omega, fun e => absurd he0 e, fun _ => Or.inr ⟨g1, by show σ0.deep - 1 ≤ σ2.deep ∧ σ2.deep ≤ σ0.deep; omega, ?_, ?_⟩⟩, by omega, fun e => absurd e g1⟩
      · show (σ.nodes ++ [_]).length + σ2.rest.length ≤ _
        rw [hlen]; omega
      · exact ho.d _ (.opsSpan hk0 h5 g2)
theorem stars_round {σ0 σ : RS} {a : Int} (h : Loop .rep .stars σ0 σ a) (hr0 : Ready σ0) (he : σ.err = 0) (ht : textOf σ.rest = [42]) :
    Loop .rep .stars σ0 { makesF true false σ with nodes := (makesF true false σ).nodes ++ [nd1 22 0 0 [a]] } ((makesF true false σ).nodes.length : Int) ∧ (makesF true false σ).nodes.length ≤ 60000 ∧ ((makesF true false σ).err = 0 → (makesF true false σ).rest.length < σ.rest.length) := by
  obtain ⟨ho, he0⟩ := h.open he
  have hr := ho.ready hr0 he0
  obtain ⟨h1, h2, h3, h4⟩ := hr.good he
  have hsm := hr.some he
  have hl := tail_len hsm
  have hro := hr.room
  have hro2 := ho.room
  have hle := ho.less
  have hde := ho.deep
  have hg := h1.next (show textOf σ.rest ≠ [] by rw [ht]; exact List.cons_ne_nil _ _)
  have hlen : ∀ (m : List Nd) (x : Nd), (m ++ [x]).length = m.length + 1 := fun m x => by rw [List.length_append]; rfl
  rcases makes_nf he h4 hsm with ⟨h5, h6⟩ | ⟨h5, h6⟩
  · rw [h6]
    refine ⟨⟨by show 0 ≤ (σ.nodes.length : Int) ∧ (σ.nodes.length : Int) ≤ 100000; omega, fun e => absurd he0 e, fun _ => Or.inr ⟨by show (4 : Nat) ≠ 0; omega, by show σ0.deep - 1 ≤ σ.deep ∧ σ.deep ≤ σ0.deep; omega, ?_, ?_⟩⟩, by show σ.nodes.length ≤ 60000; omega, fun e => absurd e (by show (4 : Nat) ≠ 0; omega)⟩
    · show (σ.nodes ++ [_]).length + σ.rest.length ≤ _
      rw [hlen]; omega
    · exact ho.d _ (.starsMany ht h5)
  · rw [h6]
    refine ⟨⟨by show 0 ≤ (σ.nodes.length : Int) ∧ (σ.nodes.length : Int) ≤ 100000; omega, fun e => absurd he0 e, fun _ => Or.inl ⟨he, hde, hg, by show σ.made + 1 ≤ 200; omega, ?_, by show σ.rest.tail.length ≤ _; omega, fun o hd => ?_⟩⟩, by show σ.nodes.length ≤ 60000; omega, fun _ => by show σ.rest.tail.length < _; omega⟩
    · show (σ.nodes ++ [_]).length + σ.rest.tail.length ≤ _
      rw [hlen]; omega
    · exact ho.d _ (.starsGo ht h5 hd)

theorem leaf_post {g : Bool} {σ : RS} {n : Nd} (hr : Ready σ) (he : σ.err = 0) (hn : leafOf g (textOf σ.rest) = some n) (ht : textOf σ.rest ≠ []) :
    Post (.opd g) σ ((makesF true false σ).nodes.length : Int) { makesF true false σ with nodes := (makesF true false σ).nodes ++ [n] } ∧ (makesF true false σ).nodes.length ≤ 60000 := by
  obtain ⟨h1, h2, h3, h4⟩ := hr.good he
  have hsm := hr.some he
  have hl := tail_len hsm
  have hro := hr.room
  have hg := h1.next ht
  have hlen : ∀ (m : List Nd) (x : Nd), (m ++ [x]).length = m.length + 1 := fun m x => by rw [List.length_append]; rfl
  rcases makes_nf he h4 hsm with ⟨h5, h6⟩ | ⟨h5, h6⟩
  · rw [h6]
    refine ⟨⟨by show 0 ≤ (σ.nodes.length : Int) ∧ (σ.nodes.length : Int) ≤ 100000; omega, fun e => absurd he e, fun _ => Or.inr ⟨by show (4 : Nat) ≠ 0; omega, by show σ.deep - 1 ≤ σ.deep ∧ σ.deep ≤ σ.deep; omega, ?_, .leafMany hn h5⟩⟩, by show σ.nodes.length ≤ 60000; omega⟩
    show (σ.nodes ++ [_]).length + σ.rest.length ≤ _
    rw [hlen]; omega
  · rw [h6]
    refine ⟨⟨by show 0 ≤ (σ.nodes.length : Int) ∧ (σ.nodes.length : Int) ≤ 100000; omega, fun e => absurd he e, fun _ => Or.inl ⟨he, rfl, hg, by show σ.made + 1 ≤ 200; omega, ?_, by show σ.rest.tail.length ≤ _; omega, .leaf hn h5⟩⟩, by show σ.nodes.length ≤ 60000; omega⟩
    show (σ.nodes ++ [_]).length + σ.rest.tail.length ≤ _
    rw [hlen]; omega
theorem none_post {g : Bool} {σ : RS} (hr : Ready σ) (he : σ.err = 0) (h1 : leafOf g (textOf σ.rest) = none) (h2 : textOf σ.rest ≠ [40]) (h3 : braceOf g (textOf σ.rest) = 0) (h4 : preOf g (textOf σ.rest) = 0) : Post (.opd g) σ 0 (badF 2 σ) := by
  rw [bad_go he (hr.some he)]
  exact ⟨by omega, fun e => absurd he e, fun _ => Or.inr ⟨by show (2 : Nat) ≠ 0; omega, by show σ.deep - 1 ≤ σ.deep ∧ σ.deep ≤ σ.deep; omega, by show σ.nodes.length + σ.rest.length ≤ _; omega, .none h1 h2 h3 h4⟩⟩
/-- A sign or a word ahead of its operand. -/
theorem pre_post {g : Bool} {k : Nat} {σ : RS} (hr : Ready σ) (he : σ.err = 0) (hk : preOf g (textOf σ.rest) = k) (hk0 : k ≠ 0) (_ht : textOf σ.rest ≠ []) {lo hi a : Int} {σ2 σ3 : RS}
    (hs : SpanPost k (makesF true true σ) lo hi σ2) (hp : Post (.opd false) σ2 a σ3) : Post (.opd g) σ (σ3.nodes.length : Int) { σ3 with deep := σ3.deep - 1, nodes := σ3.nodes ++ [nd1 k lo hi [a]] } ∧ σ3.nodes.length ≤ 60000 ∧ -100 ≤ σ3.deep ∧ σ3.deep ≤ 100 := by
  obtain ⟨h1, h2, h3, h4⟩ := hr.good he
  have hsm := hr.some he
  have hl := tail_len hsm
  have hro := hr.room
  subst hk
  have hlen : ∀ (m : List Nd) (x : Nd), (m ++ [x]).length = m.length + 1 := fun m x => by rw [List.length_append]; rfl
  have hdt : (σ.deep + 1).toNat = σ.deep.toNat + 1 := by omega
  by_cases e1 : (makesF true true σ).err = 0
  · rcases makes_nd he h4 h3 hsm with ⟨h5, h6⟩ | ⟨h5, h7, h6⟩ | ⟨h5, h7, h6⟩
    · rw [h6] at e1; exact absurd e1 (by show (3 : Nat) ≠ 0; omega)
    · rw [h6] at e1; exact absurd e1 (by show (4 : Nat) ≠ 0; omega)
    · have hd40 : σ.deep.toNat ≠ 40 := by omega
      rcases hs.now e1 with ⟨g1, g2, g3, g4, g5⟩ | ⟨g1, g2, g3, g5⟩
      · rw [h6] at g2 g3 g5
        have f1 : σ2.made = σ.made + 1 := by rw [g3]
        have f2 : σ2.nodes = σ.nodes := by rw [g3]
        have f3 : σ2.deep = σ.deep + 1 := by rw [g3]
        have g5 : σ2.rest.length ≤ σ.rest.tail.length := g5
        rcases hp.now g1 with kd | kf
        · have p1 := kd.room
          have p2 := kd.less
          have p3 := kd.d
          have p4 := kd.deep
          rw [f2] at p1
          rw [f1, f2, f3, hdt] at p3
          refine ⟨⟨by omega, fun e => absurd he e, fun _ => Or.inl ⟨kd.err, by show σ3.deep - 1 = _; omega, kd.good, kd.made, ?_, by show σ3.rest.length ≤ _; omega, .pre (s := ⟨σ.rest, σ.made, σ.nodes⟩) (s1 := ⟨σ3.rest, σ3.made, σ3.nodes⟩) hk0 hd40 h7 g2 p3⟩⟩, by omega, by omega, by omega⟩
          show (σ3.nodes ++ [_]).length + σ3.rest.length ≤ _
          rw [hlen]; omega
        · have p1 := kf.room
          have p2 := kf.deep
          have p3 := kf.d
          rw [f2] at p1
          rw [f1, f2, f3, hdt] at p3
          refine ⟨⟨by omega, fun e => absurd he e, fun _ => Or.inr ⟨kf.err, by show σ.deep - 1 ≤ σ3.deep - 1 ∧ σ3.deep - 1 ≤ σ.deep; omega, ?_, .preBad hk0 hd40 h7 g2 p3⟩⟩, by omega, by omega, by omega⟩
          show (σ3.nodes ++ [_]).length + σ3.rest.length ≤ _
          rw [hlen]; omega
      · have e3 := hp.was g1
        rw [h6] at g2 g3 g5
        have f2 : σ2.nodes = σ.nodes := by rw [g3]
        have f3 : σ2.deep = σ.deep + 1 := by rw [g3]
        have g5 : σ2.rest.length ≤ σ.rest.tail.length := g5
        rw [e3.1, f2]
        refine ⟨⟨by omega, fun e => absurd he e, fun _ => Or.inr ⟨g1, by show σ.deep - 1 ≤ σ2.deep - 1 ∧ σ2.deep - 1 ≤ σ.deep; omega, ?_, .preSpan hk0 hd40 h7 g2⟩⟩, by omega, by omega, by omega⟩
        show (σ.nodes ++ [_]).length + σ2.rest.length ≤ _
        rw [hlen]; omega
  · have e2 := hs.was e1
    have e3 := hp.was (by rw [e2]; exact e1)
    rw [e2] at e3
    rw [e3.1]
    rcases makes_nd he h4 h3 hsm with ⟨h5, h6⟩ | ⟨h5, h7, h6⟩ | ⟨h5, h7, h6⟩
    · rw [h6]
      refine ⟨⟨by show 0 ≤ (σ.nodes.length : Int) ∧ (σ.nodes.length : Int) ≤ 100000; omega, fun e => absurd he e, fun _ => Or.inr ⟨by show (3 : Nat) ≠ 0; omega, by show σ.deep - 1 ≤ (41 : Int) - 1 ∧ (41 : Int) - 1 ≤ σ.deep; omega, ?_, .preDeep hk0 (by omega)⟩⟩, by show σ.nodes.length ≤ 60000; omega, by show (-100 : Int) ≤ 41; omega, by show (41 : Int) ≤ 100; omega⟩
      show (σ.nodes ++ [_]).length + σ.rest.length ≤ _
      rw [hlen]; omega
    · rw [h6]
      refine ⟨⟨by show 0 ≤ (σ.nodes.length : Int) ∧ (σ.nodes.length : Int) ≤ 100000; omega, fun e => absurd he e, fun _ => Or.inr ⟨by show (4 : Nat) ≠ 0; omega, by show σ.deep - 1 ≤ σ.deep + 1 - 1 ∧ σ.deep + 1 - 1 ≤ σ.deep; omega, ?_, .preMany hk0 (by omega) h7⟩⟩, by show σ.nodes.length ≤ 60000; omega, by show -100 ≤ σ.deep + 1; omega, by show σ.deep + 1 ≤ 100; omega⟩
      show (σ.nodes ++ [_]).length + σ.rest.length ≤ _
      rw [hlen]; omega
    · rw [h6] at e1; exact absurd he e1
/-- What is in brackets. -/
theorem par_post {g : Bool} {σ : RS} (hr : Ready σ) (he : σ.err = 0) (ht : textOf σ.rest = [40]) {a : Int} {σ2 : RS}
    (hp : Post (.row g 0) (makesF false true σ) a σ2) : (σ2.err = 0 → σ2.rest ≠ []) ∧ Post (.opd g) σ a { takesF [41] σ2 with deep := (takesF [41] σ2).deep - 1 } ∧ -100 ≤ (takesF [41] σ2).deep ∧ (takesF [41] σ2).deep ≤ 100 := by
  obtain ⟨h1, h2, h3, h4⟩ := hr.good he
  have hsm := hr.some he
  have hl := tail_len hsm
  have hro := hr.room
  have hdt : (σ.deep + 1).toNat = σ.deep.toNat + 1 := by omega
  rcases makes_fd he h3 hsm with ⟨h5, h6⟩ | ⟨h5, h6⟩
  · have e1 : (makesF false true σ).err ≠ 0 := by rw [h6]; show (3 : Nat) ≠ 0; omega
    obtain ⟨e3, e4⟩ := hp.was e1
    rw [h6] at e3
    have e5 : σ2.err ≠ 0 := by rw [e3]; show (3 : Nat) ≠ 0; omega
    rw [takes_err e5, e3]
    exact ⟨fun e => absurd e (by show (3 : Nat) ≠ 0; omega), ⟨by omega, fun e => absurd he e, fun _ => Or.inr ⟨by show (3 : Nat) ≠ 0; omega, by show σ.deep - 1 ≤ (41 : Int) - 1 ∧ (41 : Int) - 1 ≤ σ.deep; omega, by show σ.nodes.length + σ.rest.length ≤ _; omega, .parDeep ht (by omega)⟩⟩, by show (-100 : Int) ≤ 41; omega, by show (41 : Int) ≤ 100; omega⟩
  · have e1 : (makesF false true σ).err = 0 := by rw [h6]; exact he
    have hd40 : σ.deep.toNat ≠ 40 := by omega
    rcases hp.now e1 with kd | kf
    · have p1 := kd.room
      have p2 := kd.less
      have p3 := kd.d
      have p4 := kd.deep
      rw [h6] at p1 p2 p3 p4
      have p1 : σ2.nodes.length + σ2.rest.length ≤ σ.nodes.length + σ.rest.tail.length := p1
      have p2 : σ2.rest.length ≤ σ.rest.tail.length := p2
      have p4 : σ2.deep = σ.deep + 1 := p4
      have p3 : D (.row g 0) (σ.deep + 1).toNat ⟨σ.rest.tail, σ.made, σ.nodes⟩ (.ok ⟨σ2.rest, σ2.made, σ2.nodes⟩ a) := p3
      rw [hdt] at p3
      obtain ⟨t2, r2, hr2, -⟩ := kd.good.split
      have hne : σ2.rest ≠ [] := by rw [hr2]; exact List.cons_ne_nil _ _
      have hl2 := tail_len hne
      rw [takes_go kd.err kd.good (by decide)]
      refine ⟨fun _ => hne, ?_⟩
      by_cases hc : textOf σ2.rest = [41]
      · rw [if_pos hc]
        exact ⟨⟨hp.val, fun e => absurd he e, fun _ => Or.inl ⟨kd.err, by show σ2.deep - 1 = _; omega, kd.good.next (by rw [hc]; exact List.cons_ne_nil _ _), kd.made, by show σ2.nodes.length + σ2.rest.tail.length ≤ _; omega, by show σ2.rest.tail.length ≤ _; omega, .par (s := ⟨σ.rest, σ.made, σ.nodes⟩) (s1 := ⟨σ2.rest, σ2.made, σ2.nodes⟩) ht hd40 p3 hc⟩⟩, by show -100 ≤ σ2.deep; omega, by show σ2.deep ≤ 100; omega⟩
      · rw [if_neg hc]
        exact ⟨⟨hp.val, fun e => absurd he e, fun _ => Or.inr ⟨by show (2 : Nat) ≠ 0; omega, by show σ.deep - 1 ≤ σ2.deep - 1 ∧ σ2.deep - 1 ≤ σ.deep; omega, by show σ2.nodes.length + σ2.rest.length ≤ _; omega, .parMiss (s := ⟨σ.rest, σ.made, σ.nodes⟩) (s1 := ⟨σ2.rest, σ2.made, σ2.nodes⟩) ht hd40 p3 hc⟩⟩, by show -100 ≤ σ2.deep; omega, by show σ2.deep ≤ 100; omega⟩
    · have p1 := kf.room
      have p2 := kf.deep
      have p3 := kf.d
      rw [h6] at p1 p2 p3
      have p1 : σ2.nodes.length + σ2.rest.length ≤ σ.nodes.length + σ.rest.tail.length + 1 := p1
      have p2 : σ.deep + 1 - 1 ≤ σ2.deep ∧ σ2.deep ≤ σ.deep + 1 := p2
      have p3 : D (.row g 0) (σ.deep + 1).toNat ⟨σ.rest.tail, σ.made, σ.nodes⟩ (.bad σ2.err σ2.wh) := p3
      rw [hdt] at p3
      rw [takes_err kf.err]
      exact ⟨fun e => absurd e kf.err, ⟨hp.val, fun e => absurd he e, fun _ => Or.inr ⟨kf.err, by show σ.deep - 1 ≤ σ2.deep - 1 ∧ σ2.deep - 1 ≤ σ.deep; omega, by show σ2.nodes.length + σ2.rest.length ≤ _; omega, .parBad ht hd40 p3⟩⟩, by omega, by omega⟩
end Go.Proofs.YtnoghlhggeffnaaGreatDoor.Parse

/- What the reference's braces and span leave. By an AI agent. -/
namespace Go.Proofs.YtnoghlhggeffnaaGreatDoor.Parse
open Go.Proofs.YtnoghlhggeffnaaGreatDoor.Lex Go.Proofs.YtnoghlhggeffnaaGreatDoor.Tree

def needF (σ : RS) : RS := if σ.err = 0 ∧ textOf σ.rest ≠ [123] then badF 2 σ else σ
theorem need_ready {σ : RS} (hr : Ready σ) : Ready (needF σ) ∧ ((needF σ).err = 0 → σ.err = 0 ∧ textOf (needF σ).rest = [123] ∧ (needF σ).rest.length ≤ σ.rest.length) := by
  unfold needF
  by_cases h : σ.err = 0 ∧ textOf σ.rest ≠ [123]
  · rw [if_pos h, bad_go h.1 (hr.some h.1)]
    exact ⟨⟨fun e => absurd e (by show (2 : Nat) ≠ 0; omega), hr.deep, hr.room⟩, fun e => absurd e (by show (2 : Nat) ≠ 0; omega)⟩
  · rw [if_neg h]
    exact ⟨hr, fun e => ⟨e, Classical.not_not.1 fun k => h ⟨e, k⟩, Nat.le_refl _⟩⟩
theorem need_err {σ : RS} (he : σ.err ≠ 0) : needF σ = σ := if_neg fun h => he h.1

set_option maxHeartbeats 1000000 in
theorem br_post {g : Bool} {k : Nat} {σ : RS} (hr : Ready σ) (he : σ.err = 0) (hk : braceOf g (textOf σ.rest) = k) (hk0 : k ≠ 0) (_ht : textOf σ.rest ≠ []) {lo hi a : Int} {σ2 σ5 : RS}
    (hs : SpanPost k (makesF true false σ) lo hi σ2) (hp : Post (.row true 0) (makesF false true (needF σ2)) a σ5) :
    (σ5.err = 0 → σ5.rest ≠ []) ∧ Post (.opd g) σ ((takesF [125] σ5).nodes.length : Int) { takesF [125] σ5 with deep := (takesF [125] σ5).deep - 1, nodes := (takesF [125] σ5).nodes ++ [nd1 k lo hi [a]] } ∧ (takesF [125] σ5).nodes.length ≤ 60000 ∧ -100 ≤ (takesF [125] σ5).deep ∧ (takesF [125] σ5).deep ≤ 100 := by
  obtain ⟨h1, h2, h3, h4⟩ := hr.good he
  have hsm := hr.some he
  have hl := tail_len hsm
  have hro := hr.room
  subst hk
  have hlen : ∀ (m : List Nd) (x : Nd), (m ++ [x]).length = m.length + 1 := fun m x => by rw [List.length_append]; rfl
  have hdt : (σ.deep + 1).toNat = σ.deep.toNat + 1 := by omega
  -- an error at σ4 ends all
  have key : ∀ σ4 : RS, makesF false true (needF σ2) = σ4 → σ4.err ≠ 0 → (σ.deep ≤ σ4.deep ∧ σ4.deep ≤ σ.deep + 1) → σ4.nodes = σ.nodes → σ4.rest.length ≤ σ.rest.length → D (.opd g) σ.deep.toNat ⟨σ.rest, σ.made, σ.nodes⟩ (.bad σ4.err σ4.wh) → (σ5.err = 0 → σ5.rest ≠ []) ∧ Post (.opd g) σ ((takesF [125] σ5).nodes.length : Int) { takesF [125] σ5 with deep := (takesF [125] σ5).deep - 1, nodes := (takesF [125] σ5).nodes ++ [nd1 (braceOf g (textOf σ.rest)) lo hi [a]] } ∧ (takesF [125] σ5).nodes.length ≤ 60000 ∧ -100 ≤ (takesF [125] σ5).deep ∧ (takesF [125] σ5).deep ≤ 100 := by
    intro σ4 e4 q1 q2 q3 q4 q5
    have e5 := (hp.was (by rw [e4]; exact q1)).1
    rw [e4] at e5
    rw [e5, takes_err q1, q3]
    refine ⟨fun e => absurd e q1, ⟨by omega, fun e => absurd he e, fun _ => Or.inr ⟨q1, by show σ.deep - 1 ≤ σ4.deep - 1 ∧ σ4.deep - 1 ≤ σ.deep; omega, ?_, q5⟩⟩, by omega, by omega, by omega⟩
    show (σ.nodes ++ [_]).length + σ4.rest.length ≤ _
    rw [hlen]; omega
  rcases makes_nf he h4 hsm with ⟨h5, h6⟩ | ⟨h5, h6⟩
  · have e1 : (makesF true false σ).err ≠ 0 := by rw [h6]; show (4 : Nat) ≠ 0; omega
    have e2 := hs.was e1
    have e3 : σ2.err ≠ 0 := by rw [e2]; exact e1
    refine key (makesF true false σ) (by rw [need_err e3, makes_err e3, e2]) e1 ?_ ?_ ?_ ?_
    · rw [h6]; show σ.deep ≤ σ.deep ∧ σ.deep ≤ σ.deep + 1; omega
    · rw [h6]
    · rw [h6]; exact Nat.le_refl _
    · rw [h6]; exact .brMany hk0 h5
  · have e1 : (makesF true false σ).err = 0 := by rw [h6]; exact he
    rcases hs.now e1 with ⟨g1, g2, g3, g4, g5⟩ | ⟨g1, g2, g3, g5⟩
    · rw [h6] at g2 g3 g5
      have f1 : σ2.made = σ.made + 1 := by rw [g3]
      have f2 : σ2.nodes = σ.nodes := by rw [g3]
      have f3 : σ2.deep = σ.deep := by rw [g3]
      have g5 : σ2.rest.length ≤ σ.rest.tail.length := g5
      obtain ⟨t2, r2, hr2, -⟩ := g4.split
      have hne2 : σ2.rest ≠ [] := by rw [hr2]; exact List.cons_ne_nil _ _
      have hl2 := tail_len hne2
      by_cases hb : textOf σ2.rest = [123]
      · have e3 : needF σ2 = σ2 := if_neg fun h => h.2 hb
        rcases makes_fd g1 (by omega) hne2 with ⟨h7, h8⟩ | ⟨h7, h8⟩
        · refine key { σ2 with deep := 41, err := 3, wh := posOf σ2.rest } (by rw [e3, h8]) (by show (3 : Nat) ≠ 0; omega) (by show σ.deep ≤ (41 : Int) ∧ (41 : Int) ≤ σ.deep + 1; omega) f2 (by show σ2.rest.length ≤ _; omega) ?_
          exact .brDeep (s := ⟨σ.rest, σ.made, σ.nodes⟩) hk0 h5 g2 hb (by omega)
        · have hd40 : σ.deep.toNat ≠ 40 := by omega
          have e4 : (makesF false true (needF σ2)).err = 0 := by rw [e3, h8]; exact g1
          rcases hp.now e4 with kd | kf
          · have p1 := kd.room
            have p2 := kd.less
            have p3 := kd.d
            have p4 := kd.deep
            rw [e3, h8] at p1 p2 p3 p4
            have p1 : σ5.nodes.length + σ5.rest.length ≤ σ2.nodes.length + σ2.rest.tail.length := p1
            have p2 : σ5.rest.length ≤ σ2.rest.tail.length := p2
            have p4 : σ5.deep = σ2.deep + 1 := p4
            have p3 : D (.row true 0) (σ2.deep + 1).toNat ⟨σ2.rest.tail, σ2.made, σ2.nodes⟩ (.ok ⟨σ5.rest, σ5.made, σ5.nodes⟩ a) := p3
            rw [f1, f2, f3, hdt] at p3
            rw [f2] at p1
            obtain ⟨t5, r5, hr5, -⟩ := kd.good.split
            have hne : σ5.rest ≠ [] := by rw [hr5]; exact List.cons_ne_nil _ _
            have hl5 := tail_len hne
            rw [takes_go kd.err kd.good (by decide)]
            refine ⟨fun _ => hne, ?_⟩
            by_cases hc : textOf σ5.rest = [125]
            · rw [if_pos hc]
              refine ⟨⟨by show 0 ≤ (σ5.nodes.length : Int) ∧ (σ5.nodes.length : Int) ≤ 100000; omega, fun e => absurd he e, fun _ => Or.inl ⟨kd.err, by show σ5.deep - 1 = _; omega, kd.good.next (by rw [hc]; exact List.cons_ne_nil _ _), kd.made, ?_, by show σ5.rest.tail.length ≤ _; omega, .br (s := ⟨σ.rest, σ.made, σ.nodes⟩) (s1 := ⟨σ5.rest, σ5.made, σ5.nodes⟩) hk0 h5 g2 hb hd40 p3 hc⟩⟩, by show σ5.nodes.length ≤ 60000; omega, by show -100 ≤ σ5.deep; omega, by show σ5.deep ≤ 100; omega⟩
              show (σ5.nodes ++ [_]).length + σ5.rest.tail.length ≤ _
              rw [hlen]; omega
            · rw [if_neg hc]
              refine ⟨⟨by show 0 ≤ (σ5.nodes.length : Int) ∧ (σ5.nodes.length : Int) ≤ 100000; omega, fun e => absurd he e, fun _ => Or.inr ⟨by show (2 : Nat) ≠ 0; omega, by show σ.deep - 1 ≤ σ5.deep - 1 ∧ σ5.deep - 1 ≤ σ.deep; omega, ?_, .brEnd (s := ⟨σ.rest, σ.made, σ.nodes⟩) (s1 := ⟨σ5.rest, σ5.made, σ5.nodes⟩) hk0 h5 g2 hb hd40 p3 hc⟩⟩, by show σ5.nodes.length ≤ 60000; omega, by show -100 ≤ σ5.deep; omega, by show σ5.deep ≤ 100; omega⟩
              show (σ5.nodes ++ [_]).length + σ5.rest.length ≤ _
              rw [hlen]; omega
          · have p1 := kf.room
            have p2 := kf.deep
            have p3 := kf.d
            rw [e3, h8] at p1 p2 p3
            have p1 : σ5.nodes.length + σ5.rest.length ≤ σ2.nodes.length + σ2.rest.tail.length + 1 := p1
            have p2 : σ2.deep + 1 - 1 ≤ σ5.deep ∧ σ5.deep ≤ σ2.deep + 1 := p2
            have p3 : D (.row true 0) (σ2.deep + 1).toNat ⟨σ2.rest.tail, σ2.made, σ2.nodes⟩ (.bad σ5.err σ5.wh) := p3
            rw [f1, f2, f3, hdt] at p3
            rw [f2] at p1
            rw [takes_err kf.err]
            refine ⟨fun e => absurd e kf.err, ⟨by omega, fun e => absurd he e, fun _ => Or.inr ⟨kf.err, by show σ.deep - 1 ≤ σ5.deep - 1 ∧ σ5.deep - 1 ≤ σ.deep; omega, ?_, .brBad (s := ⟨σ.rest, σ.made, σ.nodes⟩) hk0 h5 g2 hb hd40 p3⟩⟩, by omega, by omega, by omega⟩
            show (σ5.nodes ++ [_]).length + σ5.rest.length ≤ _
            rw [hlen]; omega
      · have e3 : needF σ2 = { σ2 with err := 2, wh := posOf σ2.rest } := by unfold needF; rw [if_pos ⟨g1, hb⟩, bad_go g1 hne2]
        have e4 : (needF σ2).err ≠ 0 := by rw [e3]; show (2 : Nat) ≠ 0; omega
        refine key { σ2 with err := 2, wh := posOf σ2.rest } (by rw [makes_err e4, e3]) (by show (2 : Nat) ≠ 0; omega) (by show σ.deep ≤ σ2.deep ∧ σ2.deep ≤ σ.deep + 1; omega) f2 (by show σ2.rest.length ≤ _; omega) ?_
        exact .brMiss (s := ⟨σ.rest, σ.made, σ.nodes⟩) hk0 h5 g2 hb
    · rw [h6] at g2 g3 g5
      have f2 : σ2.nodes = σ.nodes := by rw [g3]
      have f3 : σ2.deep = σ.deep := by rw [g3]
      have g5 : σ2.rest.length ≤ σ.rest.tail.length := g5
      exact key σ2 (by rw [need_err g1, makes_err g1]) g1 (by omega) f2 (by omega) (.brSpan (s := ⟨σ.rest, σ.made, σ.nodes⟩) hk0 h5 g2)

/-! ### span -/
def tailF (σ : RS) : RS := { σ with rest := σ.rest.tail }
/-- span behind its bracket. -/
def spanLo (σ : RS) : Int := numX 0 (tailF σ)
def spanA (σ : RS) : RS := takesF [44] (numF 0 (tailF σ))
def spanHi (σ : RS) : Int := if seesB 3 [42] (spanA σ) = true then -1 else numX (spanLo σ) (spanA σ)
def spanB (σ : RS) : RS := if seesB 3 [42] (spanA σ) = true then tailF (spanA σ) else numF (spanLo σ) (spanA σ)
def spanF (σ : RS) : RS := takesF [93] (spanB σ)
/-- A state on which each word may be called. -/
def Some1 (σ : RS) : Prop := σ.err = 0 → GoodT σ.rest
theorem Some1.ne {σ : RS} (h : Some1 σ) : σ.err = 0 → σ.rest ≠ [] := fun he => by
  obtain ⟨t, r, h1, -⟩ := (h he).split
  rw [h1]
  exact List.cons_ne_nil _ _
theorem num_go {x : Int} {σ : RS} (he : σ.err = 0) (hg : GoodT σ.rest) :
    (kindOf σ.rest = 2 ∧ x ≤ (numAt σ.rest : Int) ∧ numX x σ = (numAt σ.rest : Int) ∧ numF x σ = tailF σ) ∨ (¬ (kindOf σ.rest = 2 ∧ x ≤ (numAt σ.rest : Int)) ∧ numX x σ = 0 ∧ numF x σ = { σ with err := 2, wh := posOf σ.rest }) := by
  obtain ⟨rs, ns, md, dp, er, wh⟩ := σ
  have he : er = 0 := he
  subst he
  obtain ⟨t, r, h1, -⟩ := hg.split
  have h1 : rs = t :: r := h1
  subst h1
  by_cases h : t.kind = 2 ∧ x ≤ (t.num : Int)
  · exact Or.inl ⟨h.1, h.2, if_pos h, if_pos h⟩
  · exact Or.inr ⟨h, if_neg h, if_neg h⟩
theorem num_err {x : Int} {σ : RS} (he : σ.err ≠ 0) : numX x σ = 0 ∧ numF x σ = σ := ⟨if_pos he, if_pos he⟩
theorem num_some {x : Int} {σ : RS} (h : Some1 σ) : Some1 (numF x σ) := by
  intro he
  by_cases h0 : σ.err = 0
  · rcases num_go (x := x) h0 (h h0) with ⟨h1, -, -, h4⟩ | ⟨-, -, h4⟩
    · rw [h4]; exact (h h0).tail (by omega)
    · rw [h4] at he; exact absurd he (by show (2 : Nat) ≠ 0; omega)
  · rw [(num_err h0).2] at he; exact absurd he h0
theorem takes_some {c : UInt8} {u : List UInt8} {σ : RS} (hc : small c = false) (h : Some1 σ) : Some1 (takesF (c :: u) σ) := by
  intro he
  by_cases h0 : σ.err = 0
  · rw [takes_go h0 (h h0) hc] at he ⊢
    split at he
    · next hu => rw [if_pos hu]; exact (h h0).next (by rw [hu]; exact List.cons_ne_nil _ _)
    · exact absurd he (by show (2 : Nat) ≠ 0; omega)
  · rw [takes_err h0] at he; exact absurd he h0
theorem tail_some {u : List UInt8} {σ : RS} {k : Nat} (h : Some1 σ) (hs : seesB k u σ = true) (hu : u ≠ []) : Some1 (tailF σ) := fun he => (h he).next (by rw [(sees_yes hs).2]; exact hu)
theorem spanA_some {σ : RS} (h : Some1 σ) (hs : seesB 3 [91] σ = true) : Some1 (spanA σ) := takes_some (by decide) (num_some (tail_some h hs (List.cons_ne_nil _ _)))
theorem spanB_some {σ : RS} (h : Some1 σ) (hs : seesB 3 [91] σ = true) : Some1 (spanB σ) := by
  have ha := spanA_some h hs
  unfold spanB
  split
  · next hb => exact tail_some ha hb (List.cons_ne_nil _ _)
  · exact num_some ha
theorem numX_small {x : Int} {σ : RS} (h : Some1 σ) : small64 (numX x σ) ∧ 0 ≤ numX x σ ∧ numX x σ ≤ 9999 := by
  by_cases h0 : σ.err = 0
  · rcases num_go (x := x) h0 (h h0) with ⟨-, -, h3, -⟩ | ⟨-, h3, -⟩
    · have := (h h0).num
      rw [h3]; unfold small64; omega
    · rw [h3]; unfold small64; omega
  · rw [(num_err h0).1]; unfold small64; omega
theorem spanR_eq {k : Nat} (h1 : 8 ≤ k) (h2 : k ≤ 17) (r : List Tk) : spanM k r = spanM 8 r := by
  unfold spanM
  rw [if_neg (by omega : ¬ (k < 8 ∨ 17 < k)), if_neg (by omega : ¬ (8 < 8 ∨ 17 < 8))]
theorem spanR_no {k : Nat} {σ : RS} (h1 : 8 ≤ k) (h2 : k ≤ 17) (hr : Ready σ) (hs : seesB 3 [91] σ = false) : SpanPost k σ 0 (-1) σ :=
  ⟨by unfold small64; omega, fun _ => rfl, fun he => Or.inl ⟨he, by
    rw [sees_sign he (hr.good he).1 (by decide), decide_eq_false_iff_not] at hs
    unfold spanM
    rw [if_neg (by omega), if_pos hs], rfl, (hr.good he).1, Nat.le_refl _⟩⟩
theorem goodT_ne {l : List Tk} (h : GoodT l) : l ≠ [] := by
  obtain ⟨t, r, h1, -⟩ := h.split
  rw [h1]
  exact List.cons_ne_nil _ _
set_option maxHeartbeats 1000000 in
theorem spanR_yes {k : Nat} {σ : RS} (h1 : 8 ≤ k) (h2 : k ≤ 17) (hr : Ready σ) (hs : seesB 3 [91] σ = true) : SpanPost k σ (spanLo σ) (spanHi σ) (spanF σ) := by
  have he := (sees_yes hs).1
  have ht := (sees_yes hs).2
  have hg := (hr.good he).1
  have s0 : Some1 (tailF σ) := tail_some (fun e => (hr.good e).1) hs (List.cons_ne_nil _ _)
  have sA := spanA_some (fun e => (hr.good e).1) hs
  refine ⟨⟨(numX_small s0).1, ?_⟩, fun h => absurd he h, fun _ => ?_⟩
  · unfold spanHi
    split
    · unfold small64; omega
    · exact (numX_small sA).1
  · rw [spanR_eq h1 h2]
    obtain ⟨rs, ns, md, dp, er, wh⟩ := σ
    have he : er = 0 := he
    subst he
    have ht : textOf rs = [91] := ht
    have hg : GoodT rs := hg
    have g1 : GoodT rs.tail := hg.next (by rw [ht]; exact List.cons_ne_nil _ _)
    have l0 := tail_len (goodT_ne hg)
    have l1 := tail_len (goodT_ne g1)
    have eM : spanM 8 rs = (if kindOf rs.tail ≠ 2 then .error (2, posOf rs.tail) else
      if textOf rs.tail.tail ≠ [44] then .error (2, posOf rs.tail.tail) else
      if textOf rs.tail.tail.tail = [42] then (if textOf rs.tail.tail.tail.tail ≠ [93] then .error (2, posOf rs.tail.tail.tail.tail) else .ok ((numAt rs.tail : Int), -1, rs.tail.tail.tail.tail.tail))
      else if kindOf rs.tail.tail.tail ≠ 2 ∨ numAt rs.tail.tail.tail < numAt rs.tail then .error (2, posOf rs.tail.tail.tail)
      else (if textOf rs.tail.tail.tail.tail ≠ [93] then .error (2, posOf rs.tail.tail.tail.tail) else .ok ((numAt rs.tail : Int), (numAt rs.tail.tail.tail : Int), rs.tail.tail.tail.tail.tail))) := by
      unfold spanM
      rw [if_neg (by omega), if_neg (by rw [ht]; simp)]
    show (_ ∧ spanM 8 rs = _ ∧ _) ∨ (_ ∧ spanM 8 rs = _ ∧ _)
    rw [eM]
    -- the last word
    have last : ∀ (q : List Tk) (hi : Int), GoodT q → q.length ≤ rs.length → ∀ τ : RS, τ = ⟨q, ns, md, dp, 0, wh⟩ →
        ((takesF [93] τ).err = 0 ∧ (if textOf q ≠ [93] then Except.error (2, posOf q) else Except.ok ((numAt rs.tail : Int), hi, q.tail)) = Except.ok (((numAt rs.tail : Int), hi, (takesF [93] τ).rest) : Int × Int × List Tk) ∧ takesF [93] τ = { (⟨rs, ns, md, dp, 0, wh⟩ : RS) with rest := (takesF [93] τ).rest } ∧ GoodT (takesF [93] τ).rest ∧ (takesF [93] τ).rest.length ≤ rs.length) ∨
        ((takesF [93] τ).err ≠ 0 ∧ (if textOf q ≠ [93] then Except.error (2, posOf q) else Except.ok (((numAt rs.tail : Int), hi, q.tail) : Int × Int × List Tk)) = Except.error ((takesF [93] τ).err, (takesF [93] τ).wh) ∧ takesF [93] τ = { (⟨rs, ns, md, dp, 0, wh⟩ : RS) with rest := (takesF [93] τ).rest, err := (takesF [93] τ).err, wh := (takesF [93] τ).wh } ∧ (takesF [93] τ).rest.length ≤ rs.length) := by
      intro q hi hq hql τ hτ
      subst hτ
      have lq := tail_len (goodT_ne hq)
      have e : takesF [93] (⟨q, ns, md, dp, 0, wh⟩ : RS) = if textOf q = [93] then ⟨q.tail, ns, md, dp, 0, wh⟩ else ⟨q, ns, md, dp, 2, posOf q⟩ := takes_go (σ := ⟨q, ns, md, dp, 0, wh⟩) rfl hq (by decide)
      rw [e]
      by_cases hc : textOf q = [93]
      · left
        rw [if_pos hc, if_neg (by simp [hc])]
        exact ⟨rfl, rfl, rfl, hq.next (by rw [hc]; exact List.cons_ne_nil _ _), by show q.tail.length ≤ _; omega⟩
      · right
        rw [if_neg hc, if_pos hc]
        exact ⟨by show (2 : Nat) ≠ 0; omega, rfl, rfl, hql⟩
    have fell : ∀ (σ' : RS) (q : List Tk), spanF ⟨rs, ns, md, dp, 0, wh⟩ = σ' → σ' = ⟨q, ns, md, dp, 2, posOf q⟩ → q.length ≤ rs.length →
        ((spanF ⟨rs, ns, md, dp, 0, wh⟩).err ≠ 0 ∧ (Except.error (2, posOf q) : Except Fail (Int × Int × List Tk)) = Except.error ((spanF ⟨rs, ns, md, dp, 0, wh⟩).err, (spanF ⟨rs, ns, md, dp, 0, wh⟩).wh) ∧ spanF ⟨rs, ns, md, dp, 0, wh⟩ = { (⟨rs, ns, md, dp, 0, wh⟩ : RS) with rest := (spanF ⟨rs, ns, md, dp, 0, wh⟩).rest, err := (spanF ⟨rs, ns, md, dp, 0, wh⟩).err, wh := (spanF ⟨rs, ns, md, dp, 0, wh⟩).wh } ∧ (spanF ⟨rs, ns, md, dp, 0, wh⟩).rest.length ≤ rs.length) := by
      intro σ' q e1 e2 hq
      rw [e1, e2]
      exact ⟨by show (2 : Nat) ≠ 0; omega, rfl, rfl, hq⟩
    rcases num_go (x := 0) (σ := tailF ⟨rs, ns, md, dp, 0, wh⟩) rfl g1 with ⟨a1, a2, a3, a4⟩ | ⟨a1, a3, a4⟩
    · have a1 : kindOf rs.tail = 2 := a1
      have a3 : spanLo ⟨rs, ns, md, dp, 0, wh⟩ = (numAt rs.tail : Int) := a3
      have a4 : numF 0 (tailF ⟨rs, ns, md, dp, 0, wh⟩) = (⟨rs.tail.tail, ns, md, dp, 0, wh⟩ : RS) := a4
      have g2 : GoodT rs.tail.tail := g1.tail (by omega)
      have l2 := tail_len (goodT_ne g2)
      rw [if_neg (by omega)]
      have eA : spanA ⟨rs, ns, md, dp, 0, wh⟩ = if textOf rs.tail.tail = [44] then ⟨rs.tail.tail.tail, ns, md, dp, 0, wh⟩ else ⟨rs.tail.tail, ns, md, dp, 2, posOf rs.tail.tail⟩ := by
        unfold spanA
        rw [a4]
        exact takes_go (σ := ⟨rs.tail.tail, ns, md, dp, 0, wh⟩) rfl g2 (by decide)
      by_cases hc : textOf rs.tail.tail = [44]
      · rw [if_pos hc] at eA
        rw [if_neg (by simp [hc])]
        have g3 : GoodT rs.tail.tail.tail := g2.next (by rw [hc]; exact List.cons_ne_nil _ _)
        have l3 := tail_len (goodT_ne g3)
        have eS : seesB 3 [42] (spanA ⟨rs, ns, md, dp, 0, wh⟩) = decide (textOf rs.tail.tail.tail = [42]) := by rw [eA]; exact sees_sign (σ := ⟨rs.tail.tail.tail, ns, md, dp, 0, wh⟩) rfl g3 (by decide)
        by_cases hst : textOf rs.tail.tail.tail = [42]
        · rw [if_pos hst]
          rw [decide_eq_true hst] at eS
          have eH : spanHi ⟨rs, ns, md, dp, 0, wh⟩ = -1 := by unfold spanHi; rw [eS]; rfl
          have eB : spanB ⟨rs, ns, md, dp, 0, wh⟩ = ⟨rs.tail.tail.tail.tail, ns, md, dp, 0, wh⟩ := by unfold spanB; rw [eS, if_pos rfl, eA]; rfl
          rw [a3, eH]
          exact last _ _ (g3.next (by rw [hst]; exact List.cons_ne_nil _ _)) (by omega) _ eB
        · rw [if_neg hst]
          rw [decide_eq_false hst] at eS
          have eH : spanHi ⟨rs, ns, md, dp, 0, wh⟩ = numX (numAt rs.tail : Int) (⟨rs.tail.tail.tail, ns, md, dp, 0, wh⟩ : RS) := by unfold spanHi; rw [eS, if_neg (by decide), eA, a3]
          have eB : spanB ⟨rs, ns, md, dp, 0, wh⟩ = numF (numAt rs.tail : Int) (⟨rs.tail.tail.tail, ns, md, dp, 0, wh⟩ : RS) := by unfold spanB; rw [eS, if_neg (by decide), eA, a3]
          rcases num_go (x := (numAt rs.tail : Int)) (σ := ⟨rs.tail.tail.tail, ns, md, dp, 0, wh⟩) rfl g3 with ⟨b1, b2, b3, b4⟩ | ⟨b1, b3, b4⟩
          · have b1 : kindOf rs.tail.tail.tail = 2 := b1
            have b2 : (numAt rs.tail : Int) ≤ (numAt rs.tail.tail.tail : Int) := b2
            have b3 : numX (numAt rs.tail : Int) (⟨rs.tail.tail.tail, ns, md, dp, 0, wh⟩ : RS) = (numAt rs.tail.tail.tail : Int) := b3
            rw [if_neg (by omega), a3, eH, b3]
            exact last _ _ (g3.tail (by omega)) (by omega) _ (by rw [eB, b4]; rfl)
          · have b1 : ¬ (kindOf rs.tail.tail.tail = 2 ∧ (numAt rs.tail : Int) ≤ (numAt rs.tail.tail.tail : Int)) := b1
            rw [if_pos (by omega)]
            exact Or.inr (fell _ _ rfl (by unfold spanF; rw [eB, b4, takes_err (by show (2 : Nat) ≠ 0; omega)]) (by omega))
      · rw [if_neg hc] at eA
        rw [if_pos hc]
        have eE : (spanA ⟨rs, ns, md, dp, 0, wh⟩).err ≠ 0 := by rw [eA]; show (2 : Nat) ≠ 0; omega
        exact Or.inr (fell _ _ rfl (by unfold spanF spanB; rw [sees_err eE, if_neg (by decide), (num_err eE).2, takes_err eE, eA]) (by omega))
    · have a1 : ¬ (kindOf rs.tail = 2 ∧ (0 : Int) ≤ (numAt rs.tail : Int)) := a1
      rw [if_pos (by omega)]
      have a4 : numF 0 (tailF ⟨rs, ns, md, dp, 0, wh⟩) = (⟨rs.tail, ns, md, dp, 2, posOf rs.tail⟩ : RS) := a4
      have eA : spanA ⟨rs, ns, md, dp, 0, wh⟩ = ⟨rs.tail, ns, md, dp, 2, posOf rs.tail⟩ := by unfold spanA; rw [a4, takes_err (by show (2 : Nat) ≠ 0; omega)]
      have eE : (spanA ⟨rs, ns, md, dp, 0, wh⟩).err ≠ 0 := by rw [eA]; show (2 : Nat) ≠ 0; omega
      exact Or.inr (fell _ _ rfl (by unfold spanF spanB; rw [sees_err eE, if_neg (by decide), (num_err eE).2, takes_err eE, eA]) (by omega))
end Go.Proofs.YtnoghlhggeffnaaGreatDoor.Parse
