/-
  One thing in a trace of one's own changed: what it then reads as (stage 8). By an AI agent.
-/
import Derived.Test.YtlkfdnbgplkiiaaTraceCopy
namespace Go.Proofs.Ytlkfdnbgplkiiaa.Trace
open Go.RowKit Go.Proofs.Ytlkfdnbgplkiiaa.Ints Go.Proofs.Ytlkfdnbgplkiiaa.Mem

/-- Rows of one's own as a trace. -/
theorem own_tr {W : World} {B1 B2 : Nat} {NA : Option Addr} {nn nc : Nat} {EA : Option Addr} {ne ec : Nat} {σ : List SEv} {t : Tr} {S : Nat → Prop} (hN : W.ownsRow B1 9 1 (.slice NA nn nc) nn (t.names.map strS)) (hE : OwnEvs S W B2 (.slice EA ne ec) σ) (hl : σ.map (·.1) = t.events) (hs : ∀ s ∈ t.names, s.length ≤ maxLen) :
    TrOk Any W NA nn nc EA ne ec t := by
  obtain ⟨h0, h1, h2, h3⟩ := strs_own hN
  obtain ⟨A, c, e, h4, h5, h6⟩ := (hE.mono (S' := Any) fun _ _ _ => trivial).reads fun _ _ _ => trivial
  injection e with e1 e2 e3
  subst e1; subst e2; subst e3
  have hle : σ.length = t.events.length := by rw [← hl, List.length_map]
  rw [hl] at h4
  exact ⟨h0, hle.symm, h1, hs, h4, ⟨h2, h3⟩, h5, h6⟩
theorem Rows.tr {B : Nat} {W : World} {t : Tr} {g : Nat} {NA : Option Addr} {nn nc : Nat} {EA : Option Addr} {ne ec : Nat} {σ : List SEv} (h : Rows B W t g (.slice NA nn nc) (.slice EA ne ec) σ) (hn : t.names.length = nn) (hs : ∀ s ∈ t.names, s.length ≤ maxLen) : TrOk Any W NA nn nc EA ne ec t :=
  own_tr (by have := h.names; rwa [hn] at this) h.evs h.map hs
theorem Rows.set {B : Nat} {W : World} {t : Tr} {g : Nat} {vN v : Value} {σ : List SEv} (h : Rows B W t g vN v σ) (hg : B ≤ g) (m k : Nat) (u : Value) (hm : m < B) : Rows B (W.setCell ⟨m, k, none⟩ u) t g vN v σ :=
  ⟨row_set h.1 hm, h.2, own_set h.3 (by omega) (fun b hb => by omega), h.4, fun s hs => ⟨row_set (h.5 s hs).1 (by omega), (h.5 s hs).2⟩, h.6⟩
theorem Rows.grown {B : Nat} {W W' : World} {t : Tr} {g : Nat} {vN v : Value} {σ : List SEv} {row : Option Nat} (h : Rows B W t g vN v σ) (hg : B ≤ g) (gr : W.grownBy W' row) (hr : ∀ z, row = some z → z < B) : Rows B W' t g vN v σ := by
  have key : ∀ (base : Nat) (e : TypeId) (size : Nat) (x : Value) (n : Nat) (xs : List Value), B ≤ base → W.ownsRow base e size x n xs → x.ownBlock = none ∨ x.ownBlock ≠ row := fun base e size x n xs hb ho => by
    cases hx : x.ownBlock with
    | none => exact .inl rfl
    | some z => exact .inr fun e2 => by have := (ho.lt z hx).1; have := hr z e2.symm; omega
  refine ⟨h.1.kept gr (key _ _ _ _ _ _ (Nat.le_refl _) h.1), h.2, h.3.keep gr (key _ _ _ _ _ _ (by omega) h.3.1) (fun b hb e => by have := hr b e.symm; omega), h.4, fun s hs => ⟨World.ownsRow.kept (h.5 s hs).1 gr (key _ _ _ _ _ _ (by omega) (h.5 s hs).1), (h.5 s hs).2⟩, h.6⟩

theorem rowS_set : ∀ (σ : List SEv) (i f : Nat) (s s' : SEv) (u : Value), σ[i]? = some s → f < 2 → cellsS s' = (cellsS s).set f u → rowS (σ.set i s') = (rowS σ).set (i * 2 + f) u
  | [], i, f, s, s', u, h, _, _ => by simp at h
  | x :: σ, 0, f, s, s', u, h, hf, hc => by
    simp only [List.getElem?_cons_zero, Option.some.injEq] at h
    subst h
    rw [List.set_cons_zero]
    show cellsS s' ++ rowS σ = (cellsS x ++ rowS σ).set (0 * 2 + f) u
    rw [hc, Nat.zero_mul, Nat.zero_add, List.set_append_left _ _ (by show f < 2; exact hf)]
  | x :: σ, i + 1, f, s, s', u, h, hf, hc => by
    have ih := rowS_set σ i f s s' u (by simpa using h) hf hc
    rw [List.set_cons_succ]
    show cellsS x ++ rowS (σ.set i s') = (cellsS x ++ rowS σ).set ((i + 1) * 2 + f) u
    rw [ih, List.set_append_right _ _ (by show 2 ≤ _; omega)]
    congr 2
    show i * 2 + f = (i + 1) * 2 + f - 2
    omega
theorem own_len {S : Nat → Prop} {w : World} {base g n c : Nat} {σ : List SEv} (h : OwnEvs S w base (.slice (some ⟨g, 0, none⟩) n c) σ) : n = σ.length := by
  rcases h.1.2 with ⟨e, -⟩ | ⟨g', cap, cur, e, -⟩
  · cases e
  · injection e
theorem OwnEvs.set {S : Nat → Prop} {w : World} {base g n c i f : Nat} {σ : List SEv} {s s' : SEv} {u : Value} (h : OwnEvs S w base (.slice (some ⟨g, 0, none⟩) n c) σ) (hs : σ[i]? = some s) (hf : f < 2) (hc : cellsS s' = (cellsS s).set f u)
    (hk : KidOk (fun b => S b ∧ some b ≠ (Value.slice (some ⟨g, 0, none⟩) n c).ownBlock) w s') : OwnEvs S (w.setCell ⟨g, i * 2 + f, none⟩ u) base (.slice (some ⟨g, 0, none⟩) n c) (σ.set i s') := by
  have hn := own_len h
  obtain ⟨h1, h2⟩ := h
  subst hn
  refine ⟨?_, fun t ht => ?_⟩
  · rw [List.length_set, rowS_set σ i f s s' u hs hf hc]
    exact (h1.stored (i * 2 + f) u).1
  · have ht' : KidOk (fun b => S b ∧ some b ≠ (Value.slice (some ⟨g, 0, none⟩) σ.length c).ownBlock) w t := by
      rcases List.mem_or_eq_of_mem_set ht with ht | rfl
      · exact h2 t ht
      · exact hk
    exact ht'.keep fun p v hp hv => (World.cell?_setCell_far w _ p u (fun e => hp.2 (by rw [← e]; rfl))).trans hv
/-- The cells of an event of such a row. -/
theorem OwnEvs.at {S : Nat → Prop} {w : World} {base g n c : Nat} {σ : List SEv} (h : OwnEvs S w base (.slice (some ⟨g, 0, none⟩) n c) σ) {i : Nat} {s : SEv} (hs : σ[i]? = some s) : ∀ f, f < 2 → w.cell? ⟨g, i * 2 + f, none⟩ = (cellsS s)[f]? ∧ w.frozen? ⟨g, i * 2 + f, none⟩ = false := fun f hf => by
  have hn := own_len h
  subst hn
  have hi : i < σ.length := (List.getElem?_eq_some_iff.1 hs).1
  refine ⟨?_, h.1.frozenAt _⟩
  rw [h.1.cellAt (i * 2 + f) (by omega), ← rowS_at σ i s hs f hf, Nat.mul_comm]
theorem own_some {S : Nat → Prop} {w : World} {base n c : Nat} {A : Option Addr} {σ : List SEv} (h : OwnEvs S w base (.slice A n c) σ) (h0 : 0 < n) : ∃ g, A = some ⟨g, 0, none⟩ ∧ base ≤ g ∧ g < w.heap.size := by
  have hlt := h.1.lt
  rcases h.1.2 with ⟨e, -⟩ | ⟨g, cap, cur, e, -⟩
  · injection e with _ e
    omega
  · injection e with e
    subst e
    exact ⟨g, rfl, hlt g rfl⟩

/-- One name is another. -/
theorem turn_name {B : Nat} {X : World} {t : Tr} {g gN : Nat} {nn nc : Nat} {EA : Option Addr} {ne ec : Nat} {σ : List SEv} (h : Rows B X t g (.slice (some ⟨gN, 0, none⟩) nn nc) (.slice EA ne ec) σ) (hn : t.names.length = nn) (hs : ∀ s ∈ t.names, s.length ≤ maxLen) (j : Nat) (s : ByteArray) (hz : s.size ≤ maxLen) :
    TrOk Any (X.setCell ⟨gN, j, none⟩ (.string s)) (some ⟨gN, 0, none⟩) nn nc EA ne ec ⟨t.names.set j s.data.toList, t.events⟩ := by
  have h1 := h.names
  rw [hn] at h1
  have h2 := (h1.stored j (.string s)).1
  rw [str_eta, ← List.map_set] at h2
  have hlt := h.nlt gN rfl
  refine own_tr (t := ⟨t.names.set j s.data.toList, t.events⟩) (by rw [str_eta]; exact h2) (own_other h.evs (fun e => by have := (h.evs.1.lt gN e).1; omega) (fun b hb => by omega)) h.map (fun z hz' => ?_)
  rcases List.mem_or_eq_of_mem_set hz' with hz' | rfl
  · exact hs z hz'
  · rw [Array.length_toList]; exact hz
/-- One time is another. -/
theorem turn_time {B : Nat} {X : World} {t : Tr} {g gE : Nat} {NA : Option Addr} {nn nc : Nat} {ne ec : Nat} {σ : List SEv} (h : Rows B X t g (.slice NA nn nc) (.slice (some ⟨gE, 0, none⟩) ne ec) σ) (hn : t.names.length = nn) (hs : ∀ s ∈ t.names, s.length ≤ maxLen) {i : Nat} {s : SEv} (hi : σ[i]? = some s) (tm : Int) (hw : (Lit.int .u64 tm).wf = true) :
    TrOk Any (X.setCell ⟨gE, i * 2, none⟩ (.int .u64 tm)) NA nn nc (some ⟨gE, 0, none⟩) ne ec ⟨t.names, t.events.set i ⟨tm, s.1.ids⟩⟩ := by
  have h1 := h.names
  rw [hn] at h1
  have hlt := (h.evs.1.lt gE rfl).1
  have hk := h.evs.2 s (List.mem_of_getElem? hi)
  have h2 := h.evs.set (f := 0) (u := .int .u64 tm) (s' := (⟨tm, s.1.ids⟩, s.2)) hi (by omega) rfl ⟨⟨hw, hk.1.2⟩, hk.2⟩
  rw [Nat.add_zero] at h2
  exact own_tr (t := ⟨t.names, t.events.set i ⟨tm, s.1.ids⟩⟩) (row_other h1 (fun e => by have := h.nlt gE e; omega)) h2 (by rw [List.map_set, h.map]) hs
/-- One event has other ids, in a row that has grown. -/
theorem turn_ids {B : Nat} {X W : World} {t : Tr} {g gE : Nat} {NA : Option Addr} {nn nc : Nat} {ne ec : Nat} {σ : List SEv} (h : Rows B X t g (.slice NA nn nc) (.slice (some ⟨gE, 0, none⟩) ne ec) σ) (hn : t.names.length = nn) (hs : ∀ s ∈ t.names, s.length ≤ maxLen) {i : Nat} {s : SEv} (hi : σ[i]? = some s)
    (hg : X.grownBy W (kb s)) {gK cK : Nat} {l : List Int} (hr : W.ownsRow (g + 1) 3 1 (.slice (some ⟨gK, 0, none⟩) l.length cK) l.length (l.map (Value.int .i64))) (hw : ∀ z ∈ l, (Lit.int .i64 z).wf = true) (hat : kb s = some gK ∨ X.heap.size ≤ gK) :
    TrOk Any (W.setCell ⟨gE, i * 2 + 1, none⟩ (.slice (some ⟨gK, 0, none⟩) l.length cK)) NA nn nc (some ⟨gE, 0, none⟩) ne ec ⟨t.names, t.events.set i ⟨s.1.time, l⟩⟩ := by
  have h1 := h.names
  rw [hn] at h1
  obtain ⟨hgE, hgX⟩ := h.evs.1.lt gE rfl
  have hm := List.mem_of_getElem? hi
  obtain ⟨i0, hi0⟩ := List.getElem?_eq_some_iff.1 hi
  have hkN : (Value.slice NA nn nc).ownBlock = none ∨ (Value.slice NA nn nc).ownBlock ≠ kb s := by
    cases hN : (Value.slice NA nn nc).ownBlock with
    | none => exact .inl rfl
    | some z => exact .inr fun e => by have := h.nlt z hN; have := ((h.kids s hm).1.lt e.symm).1; omega
  have hkE : (Value.slice (some ⟨gE, 0, none⟩) ne ec).ownBlock ≠ kb s := by
    rcases (h.kids s hm).2 with e | e
    · rw [e]; intro e2; cases e2
    · exact fun e2 => e e2.symm
  have hgKE : gK ≠ gE := by
    rcases hat with e | e
    · intro e2
      subst e2
      exact hkE (by rw [e]; rfl)
    · omega
  have hEn := own_len h.evs
  have hrow : OwnEvs Any (W.setCell ⟨gE, i * 2 + 1, none⟩ (.slice (some ⟨gK, 0, none⟩) l.length cK)) (g + 1) (.slice (some ⟨gE, 0, none⟩) ne ec) (σ.set i (⟨s.1.time, l⟩, some ⟨gK, 0, none⟩, cK)) := by
    have h1E := h.evs.1.kept hg (.inr hkE)
    subst hEn
    refine ⟨?_, fun x hx => ?_⟩
    · rw [List.length_set, rowS_set σ i 1 s (⟨s.1.time, l⟩, some ⟨gK, 0, none⟩, cK) (.slice (some ⟨gK, 0, none⟩) l.length cK) hi (by omega) rfl]
      exact (h1E.stored (i * 2 + 1) _).1
    · have far : ∀ p : Addr, p.block ≠ gE → (W.setCell ⟨gE, i * 2 + 1, none⟩ (.slice (some ⟨gK, 0, none⟩) l.length cK)).cell? p = W.cell? p := fun p hp => World.cell?_setCell_far W ⟨gE, i * 2 + 1, none⟩ p _ (fun e => hp e.symm)
      obtain ⟨j, hj, rfl⟩ := List.getElem_of_mem hx
      rw [List.length_set] at hj
      by_cases hij : i = j
      · subst hij
        rw [List.getElem_set_self]
        obtain ⟨⟨k1, k2, k3, k4⟩, k5⟩ := h.evs.2 s hm
        obtain ⟨A', c', e1, h5, h6, -⟩ := own_slice hr
        injection e1 with _ _ e1
        subst e1
        have hrd := Rd.own (k := .i64) hr hw
        refine ⟨⟨k1, hrd.keep fun p u hp hc => ?_, h5, h6⟩, fun a ha _ => ⟨trivial, fun e => ?_⟩⟩
        · rw [far p (by injection hp with hp; dsimp only at hp; omega)]
          exact hc
        · injection ha with ha
          subst ha
          injection e with e
          exact hgKE e
      · rw [List.getElem_set_ne hij]
        have hmj : σ[j] ∈ σ := List.getElem_mem hj
        have hkt := h.evs.2 _ hmj
        have hsep : kb σ[j] = none ∨ kb σ[j] ≠ kb s := by
          have hp := List.pairwise_iff_getElem.1 h.sep
          rcases Nat.lt_or_gt_of_ne hij with hlt | hlt
          · rcases hp i j i0 hj hlt with e | e
            · rw [hi0] at e
              cases hk : kb σ[j] with
              | none => exact .inl rfl
              | some z => exact .inr (by rw [e]; intro e2; cases e2)
            · exact .inr fun e2 => e (by rw [hi0]; exact e2.symm)
          · rcases hp j i hj i0 hlt with e | e
            · exact .inl e
            · exact .inr fun e2 => e (by rw [hi0]; exact e2)
        obtain ⟨⟨k1, k2, k3, k4⟩, k5⟩ := hkt
        refine ⟨⟨k1, (k2.grown hg (fun a ha e => ?_)).keep fun p u hp hc => ?_, k3, k4⟩, fun a e h0 => ⟨trivial, (k5 a e h0).2⟩⟩
        · rcases hsep with e2 | e2
          · unfold kb at e2; rw [ha] at e2; cases e2
          · exact e2 (by unfold kb at e ⊢; rw [ha]; exact e)
        · rw [far p (fun e => by
            obtain ⟨a, ha, hb⟩ := Option.map_eq_some_iff.1 hp
            rcases (h.kids _ hmj).2 with e2 | e2
            · unfold kb at e2; rw [ha] at e2; cases e2
            · exact e2 (by unfold kb; rw [ha]; show some a.block = some gE; rw [hb, e]))]
          exact hc
  exact own_tr (t := ⟨t.names, t.events.set i ⟨s.1.time, l⟩⟩) (row_other (h1.kept hg hkN) (fun e => by have := h.nlt gE e; omega)) hrow (by rw [List.map_set, h.map]) hs
/-- One name more, in a row that has grown, and the box set anew. -/
theorem turn_more {B : Nat} {X W : World} {t : Tr} {g tb : Nat} {vN : Value} {NA : Option Addr} {nn nc : Nat} {EA : Option Addr} {ne ec : Nat} {σ : List SEv} {u : Value} (h : Rows B X t g vN (.slice EA ne ec) σ) (hs : ∀ s ∈ t.names, s.length ≤ maxLen) (s : ByteArray) (hz : s.size ≤ maxLen)
    (hg : X.grownBy W vN.ownBlock) (hr : W.ownsRow B 9 1 (.slice NA nn nc) nn (t.names.map strS ++ [.string s])) (hN : (Value.slice NA nn nc).ownBlock ≠ some tb) (hE : ∀ q, (Value.slice EA ne ec).ownBlock = some q → q < tb) (hK : ∀ x ∈ σ, ∀ q, kb x = some q → q < tb) :
    TrOk Any (W.setCell ⟨tb, 0, none⟩ u) NA nn nc EA ne ec ⟨t.names ++ [s.data.toList], t.events⟩ := by
  have hev : OwnEvs Any (W.setCell ⟨tb, 0, none⟩ u) (g + 1) (.slice EA ne ec) σ := by
    have hv : ∀ q, (Value.slice EA ne ec).ownBlock = some q → g < q := fun q hq => (h.evs.1.lt q hq).1
    have h2 := h.evs.keep hg (by
      cases hx : (Value.slice EA ne ec).ownBlock with
      | none => exact .inl rfl
      | some q => exact .inr fun e => by have := hv q hx; have := h.nlt q e.symm; omega) (fun b hb e => by have := h.nlt b e.symm; omega)
    have hk2 : ∀ x ∈ σ, ∀ a, x.2.1 = some a → a.block ≠ tb := fun x hx a ha e => by
      have := hK x hx a.block (by unfold kb; rw [ha]; rfl)
      omega
    refine ⟨row_other h2.1 (fun e => by have := hE tb e; omega), fun x hx => ?_⟩
    obtain ⟨⟨k1, k2, k3, k4⟩, k5⟩ := h2.2 x hx
    refine ⟨⟨k1, k2.keep fun p v hp hc => ?_, k3, k4⟩, fun a e h0 => ⟨trivial, (k5 a e h0).2⟩⟩
    obtain ⟨a, ha, hb⟩ := Option.map_eq_some_iff.1 hp
    rw [World.cell?_setCell_far W ⟨tb, 0, none⟩ p u (fun e => hk2 x hx a ha (by rw [hb]; exact e.symm))]
    exact hc
  refine own_tr (t := ⟨t.names ++ [s.data.toList], t.events⟩) (row_other (by rw [List.map_append]; show World.ownsRow _ _ _ _ _ _ (_ ++ [strS s.data.toList]); rw [← str_eta]; exact hr) hN) hev h.map (fun z hz' => ?_)
  rcases List.mem_append.1 hz' with hz' | hz'
  · exact hs z hz'
  · rw [List.mem_singleton.1 hz', Array.length_toList]; exact hz
end Go.Proofs.Ytlkfdnbgplkiiaa.Trace
