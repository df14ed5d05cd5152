/-
  Traces in memory: events and rows of events of the call's own; what events that came in read as. By an AI agent.
-/
import Derived.Test.YtimbbfneaaglbaaGreatGHeadsPlays1
import Derived.Test.YtimbbfneaaglbaaGreatGHeadsPlays3
namespace Go.Proofs.YtimbbfneaaglbaaGreat.Trace
open Go.RowKit Go.ChangeShapes Go.WideShapes Go.Deep Go.Proofs.YtimbbfneaaglbaaGreat.Ints Go.Proofs.YtimbbfneaaglbaaGreat.Mem

theorem structTrace : Tryz.prog.underlying 33 = some (.struct (Tryz.prog.fieldsOf 33)) := by kernel_rfl
theorem fieldsTrace : (Tryz.prog.fieldsOf 33).toList.map (fun f => (f.type, f.offset)) = [(30, 0), (31, 1)] := by kernel_rfl
theorem cellsTrace : Tryz.prog.cellsOf 33 = 2 := by kernel_rfl
theorem cellsNames : Tryz.prog.cellsOf 30 = 1 := by kernel_rfl
theorem cellsEvents : Tryz.prog.cellsOf 31 = 1 := by kernel_rfl

section
variable {H : Type} {enc : TypeId × Value → H} {w : World}
set_option maxRecDepth 100000 in
/-- A list of events that came in. -/
theorem events_trod {fuel len cap : Nat} {A : Option Addr} {x : DataW H × List MemPlace} (hf : DataW.trod enc Tryz.prog w 0 (fun _ => true) true fuel 31 [.slice A len cap] = some x) :
    ∃ l : List Ev, l.length = len ∧ Evs Any w A l ∧ len ≤ cap ∧ cap ≤ maxLen := by
  rcases open_slice Tryz.underlying31 hf with ⟨hcs, -⟩ | ⟨a, l', c', m, n, D, Pl, hcs, -, hl, hm, hmm, -, hi⟩
  · simp at hcs
    obtain ⟨rfl, rfl, rfl⟩ := hcs
    exact ⟨[], rfl, fun h0 => by simp at h0, Nat.le_refl _, by decide⟩
  · simp at hcs
    obtain ⟨rfl, rfl, rfl⟩ := hcs
    have hm' : m = cap := by simpa using hmm
    have hone : ∀ i, i < len → ∃ nd, ∃ b off, a = ⟨b, off, none⟩ ∧ EvAt Any w b (off + 2 * i) nd := fun i hi' => by
      obtain ⟨cs', hc, ht⟩ := hi i (by omega)
      rw [cellsEvent] at hc
      obtain ⟨-, hcl, hat⟩ := World.cells?_some hc
      obtain ⟨b, off, spot⟩ := a
      obtain ⟨cs0, hc0, -⟩ := hi 0 (by omega)
      rw [cellsEvent] at hc0
      obtain ⟨-, hcl0, hat0⟩ := World.cells?_some hc0
      have h0 := hat0 0 (by omega)
      have hv : cs0[0]? = some (cs0[0]'(by omega)) := List.getElem?_eq_getElem (by omega)
      rw [hv, add_add] at h0
      have hspot : spot = none := by simpa [Addr.add] using World.cell?_spot h0
      subst hspot
      obtain ⟨nd, hn⟩ := event_of (b := b) (o := off + 2 * i) ht (fun j hj => by
        rw [← hat j (by omega), add_add]
        congr 1
        unfold Addr.add
        split <;> simp_all <;> omega)
      exact ⟨nd, b, off, rfl, hn⟩
    refine ⟨(List.range len).map fun i => if h : i < len then Classical.choose (hone i h) else ⟨0, []⟩, by simp, fun h0 => ?_, hl, hm⟩
    simp only [List.length_map, List.length_range] at h0
    obtain ⟨-, b, off, rfl, -⟩ := hone 0 h0
    refine ⟨b, off, rfl, fun j n hn => ?_⟩
    have hj : j < len := by
      have := (List.getElem?_eq_some_iff.1 hn).1
      simpa using this
    simp only [List.getElem?_map, List.getElem?_range hj, Option.map_some, Option.some.injEq, dif_pos hj] at hn
    subst hn
    obtain ⟨b', off', e, hn⟩ := Classical.choose_spec (hone j hj)
    injection e with e1 e2
    subst e1; subst e2
    exact hn

/-- A trace. -/
structure Tr where
  names : List (List UInt8)
  events : List Ev
deriving DecidableEq
/-- A trace's value. -/
def valT (NA : Option Addr) (nn nc : Nat) (EA : Option Addr) (ne ec : Nat) : Value := .agg #[.slice NA nn nc, .slice EA ne ec]
/-- The two slices read as the trace t; its names' sizes are ones of Go. -/
structure TrOk (S : Nat → Prop) (w : World) (NA : Option Addr) (nn nc : Nat) (EA : Option Addr) (ne ec : Nat) (t : Tr) : Prop where
  nlen : t.names.length = nn
  elen : t.events.length = ne
  names : Strs w NA t.names
  sizes : ∀ s ∈ t.names, s.length ≤ maxLen
  evs : Evs S w EA t.events
  ncap : nn ≤ nc ∧ nc ≤ maxLen
  ecap : ne ≤ ec ∧ ec ≤ maxLen
theorem TrOk.below {S : Nat → Prop} {w w' : World} {NA EA : Option Addr} {nn nc ne ec : Nat} {t : Tr} (h : TrOk S w NA nn nc EA ne ec t) (hb : Below w.heap.size w w') : TrOk S w' NA nn nc EA ne ec t :=
  ⟨h.1, h.2, h.3.below hb, h.4, h.5.below hb, h.6, h.7⟩
theorem TrOk.any {S : Nat → Prop} {w : World} {NA EA : Option Addr} {nn nc ne ec : Nat} {t : Tr} (h : TrOk S w NA nn nc EA ne ec t) : TrOk Any w NA nn nc EA ne ec t :=
  ⟨h.1, h.2, h.3, h.4, h.5.any, h.6, h.7⟩
set_option maxRecDepth 100000 in
/-- A trace that came in by value. -/
theorem trace_value {r : Reach} {b0 : Nat} {v : Value} {d : DataW H} {p : List MemPlace} (hv : Value.okWide Tryz.prog w r b0 33 v) (h : DataW.Trod enc Tryz.prog w 0 (fun _ => true) true 33 v d p) :
    ∃ (t : Tr) (NA : Option Addr) (nn nc : Nat) (EA : Option Addr) (ne ec : Nat), v = .agg #[.slice NA nn nc, .slice EA ne ec] ∧ TrOk Any w NA nn nc EA ne ec t := by
  obtain ⟨cs, rfl, hsz⟩ := okWide_struct structTrace hv
  obtain ⟨fuel, hf⟩ := h
  obtain ⟨ys, m, -, -, -, hlen, hf⟩ := DataW.trod_struct structTrace hf
  have hsz2 : (Tryz.prog.fieldsOf 33).size = 2 := by
    have := congrArg List.length fieldsTrace
    simpa using this
  obtain ⟨f0, g0, t0, o0⟩ := field_at fieldsTrace (i := 0) rfl
  obtain ⟨f1, g1, t1, o1⟩ := field_at fieldsTrace (i := 1) rfl
  obtain ⟨y0, e0⟩ : ∃ y, ys[0]? = some y := ⟨_, List.getElem?_eq_getElem (by omega)⟩
  obtain ⟨y1, e1⟩ : ∃ y, ys[1]? = some y := ⟨_, List.getElem?_eq_getElem (by omega)⟩
  have k0 := hf 0 f0 g0
  have k1 := hf 1 f1 g1
  rw [t0, o0, e0, cellsNames] at k0
  rw [t1, o1, e1, cellsEvents] at k1
  obtain ⟨NA, nn, nc, u0⟩ : ∃ A n c, ((Value.agg cs).cells.toList.drop 0).take 1 = [.slice A n c] := by
    rcases open_slice Tryz.underlying30 k0 with ⟨hcs, -⟩ | ⟨a, l', c', _, _, _, _, hcs, -⟩
    · exact ⟨none, 0, 0, hcs⟩
    · exact ⟨some a, l', c', hcs⟩
  obtain ⟨EA, ne, ec, u1⟩ : ∃ A n c, ((Value.agg cs).cells.toList.drop 1).take 1 = [.slice A n c] := by
    rcases open_slice Tryz.underlying31 k1 with ⟨hcs, -⟩ | ⟨a, l', c', _, _, _, _, hcs, -⟩
    · exact ⟨none, 0, 0, hcs⟩
    · exact ⟨some a, l', c', hcs⟩
  rw [u0] at k0
  rw [u1] at k1
  obtain ⟨ns, n1, n2, n3, n4⟩ := strs_trod k0
  obtain ⟨es, m1, m2, m3⟩ := events_trod k1
  exact ⟨⟨ns, es⟩, NA, nn, nc, EA, ne, ec, by rw [two_values (hsz.trans cellsTrace) (one_of u0) (one_of u1)], n1, m1, n2, n3, m2, n4, m3⟩
end

/-- A event as it is stored: with its ids' slice. -/
abbrev SEv := Ev × Option Addr × Nat
def cellsS (s : SEv) : List Value := [.int .u64 s.1.time, .slice s.2.1 s.1.ids.length s.2.2]
def rowS (l : List SEv) : List Value := l.flatMap cellsS
def KidOk (S : Nat → Prop) (w : World) (s : SEv) : Prop := EvOk w s.1 s.2.1 s.2.2 ∧ ∀ a, s.2.1 = some a → 0 < s.1.ids.length → S a.block
theorem KidOk.keep {S : Nat → Prop} {w w' : World} {s : SEv} (h : KidOk S w s) (hk : ∀ p u, S p.block → w.cell? p = some u → w'.cell? p = some u) : KidOk S w' s := by
  obtain ⟨⟨h5, h10, h11, h12⟩, h14⟩ := h
  refine ⟨⟨h5, ⟨h10.1, h10.2.1, fun h0 => ?_⟩, h11, h12⟩, h14⟩
  obtain ⟨b', off, e, hc⟩ := h10.2.2 h0
  exact ⟨b', off, e, fun j hj => hk ⟨b', off + j, none⟩ _ (h14 ⟨b', off, none⟩ e h0) (hc j hj)⟩
theorem KidOk.mono {S S' : Nat → Prop} {w : World} {s : SEv} (h : KidOk S w s) (hs : ∀ b, b < w.heap.size → S b → S' b) : KidOk S' w s := by
  obtain ⟨⟨h5, h10, h11, h12⟩, h14⟩ := h
  refine ⟨⟨h5, h10, h11, h12⟩, fun a e h0 => ?_⟩
  obtain ⟨b', off, e', hc⟩ := h10.2.2 h0
  rw [e] at e'
  injection e' with e'
  subst e'
  exact hs _ (World.block_lt_of_cell? w _ (hc 0 h0)) (h14 _ e h0)
theorem KidOk.below {S : Nat → Prop} {w w' : World} {s : SEv} (h : KidOk S w s) (hb : Below w.heap.size w w') : KidOk S w' s :=
  h.keep fun p _ _ hp => (hb.cell (World.block_lt_of_cell? w p hp)).trans hp
theorem rowS_len (l : List SEv) : (rowS l).length = l.length * 2 := by
  induction l with
  | nil => rfl
  | cons t l ih =>
    simp only [rowS, List.flatMap_cons, List.length_append, List.length_cons] at ih ⊢
    rw [ih]
    show 2 + l.length * 2 = (l.length + 1) * 2
    omega
theorem rowS_append (l m : List SEv) : rowS (l ++ m) = rowS l ++ rowS m := List.flatMap_append
theorem rowS_at : ∀ (l : List SEv) (j : Nat) (t : SEv), l[j]? = some t → ∀ f, f < 2 → (rowS l)[2 * j + f]? = (cellsS t)[f]?
  | [], j, t, h, _, _ => by simp at h
  | x :: l, 0, t, h, f, hf => by
    simp only [List.getElem?_cons_zero, Option.some.injEq] at h
    subst h
    show (cellsS x ++ rowS l)[2 * 0 + f]? = _
    rw [Nat.mul_zero, Nat.zero_add, List.getElem?_append_left (by exact hf)]
  | x :: l, j + 1, t, h, f, hf => by
    have ih := rowS_at l j t (by simpa using h) f hf
    show (cellsS x ++ rowS l)[2 * (j + 1) + f]? = _
    rw [List.getElem?_append_right (by show 2 ≤ _; omega), ← ih]
    congr 1
    show 2 * (j + 1) + f - 2 = _
    omega
theorem cellsS_one (t : SEv) : ∀ u ∈ cellsS t, u.oneCell' = true := by
  intro u hu
  simp only [cellsS, List.mem_cons, List.not_mem_nil, or_false] at hu
  rcases hu with rfl | rfl <;> rfl
theorem rowS_one (l : List SEv) : ∀ u ∈ rowS l, u.oneCell' = true := by
  intro u hu
  obtain ⟨s, -, hs⟩ := List.mem_flatMap.1 hu
  exact cellsS_one s u hs

/-- v is the call's own row of the events σ; their ids lie in blocks of S, and not in the row. -/
def OwnEvs (S : Nat → Prop) (w : World) (base : Nat) (v : Value) (l : List SEv) : Prop :=
  w.ownsRow base 38 2 v l.length (rowS l) ∧ ∀ s ∈ l, KidOk (fun b => S b ∧ some b ≠ v.ownBlock) w s
theorem OwnEvs.nil (S : Nat → Prop) (w : World) (base : Nat) : OwnEvs S w base (.slice none 0 0) [] := ⟨World.ownsRow_nil _ _ _ _, fun s hs => by simp at hs⟩
theorem OwnEvs.made (S : Nat → Prop) (w : World) (base : Nat) (hb : base ≤ w.heap.size) : OwnEvs S (w.alloc (.cells #[] 38)) base (.slice (some ⟨w.heap.size, 0, none⟩) 0 0) [] :=
  ⟨World.ownsRow_made w #[] 0 hb (by decide) rfl, fun s hs => by simp at hs⟩
theorem OwnEvs.keep {S : Nat → Prop} {w w' : World} {base : Nat} {v : Value} {l : List SEv} {row : Option Nat} (h : OwnEvs S w base v l) (hg : w.grownBy w' row) (hne : v.ownBlock = none ∨ v.ownBlock ≠ row) (hs : ∀ b, S b → some b ≠ row) : OwnEvs S w' base v l :=
  ⟨h.1.kept hg hne, fun s hs' => (h.2 s hs').keep fun _ _ hp hc => hg.cell hc (hs _ hp.1)⟩
theorem OwnEvs.below {S : Nat → Prop} {w w' : World} {base : Nat} {v : Value} {l : List SEv} (h : OwnEvs S w base v l) (hb : Below w.heap.size w w') : OwnEvs S w' base v l :=
  ⟨below_row h.1 hb, fun s hs => (h.2 s hs).below hb⟩
theorem OwnEvs.mono {S S' : Nat → Prop} {w : World} {base : Nat} {v : Value} {l : List SEv} (h : OwnEvs S w base v l) (hs : ∀ b, b < w.heap.size → S b → S' b) : OwnEvs S' w base v l :=
  ⟨h.1, fun s hs' => (h.2 s hs').mono fun b hb hp => ⟨hs b hb hp.1, hp.2⟩⟩
/-- What a row of one's own reads as. -/
theorem OwnEvs.reads {S : Nat → Prop} {w : World} {base : Nat} {v : Value} {l : List SEv} (h : OwnEvs S w base v l) (hS : ∀ b, base ≤ b → b < w.heap.size → S b) :
    ∃ A c, v = .slice A l.length c ∧ Evs S w A (l.map (·.1)) ∧ l.length ≤ c ∧ c ≤ maxLen := by
  obtain ⟨h1, h2⟩ := h
  have hlt := h1.lt
  have h1' := h1
  rcases h1.2 with ⟨rfl, h0⟩ | ⟨g, cap, cur, rfl, _, _, h3, h4, _⟩
  · exact ⟨none, 0, by rw [h0], fun hp => by simp at hp; omega, by omega, by decide⟩
  · refine ⟨_, cap, rfl, fun _ => ⟨g, 0, rfl, fun j n hj => ?_⟩, h3, h4⟩
    rw [List.getElem?_map] at hj
    obtain ⟨s, hs, rfl⟩ := Option.map_eq_some_iff.1 hj
    have hjl : j < l.length := (List.getElem?_eq_some_iff.1 hs).1
    have key : ∀ f, f < 2 → w.cell? ⟨g, 0 + 2 * j + f, none⟩ = (cellsS s)[f]? := fun f hf => by
      rw [Nat.zero_add, h1'.cellAt (2 * j + f) (by omega)]
      exact rowS_at l j s hs f hf
    obtain ⟨⟨k5, k10, k11, k12⟩, k14⟩ := h2 s (List.mem_of_getElem? hs)
    have hg := hlt g rfl
    exact ⟨key 0 (by omega), k5, s.2.1, s.2.2, key 1 (by omega), k10, k11, k12, hS _ hg.1 hg.2, fun a e h0 => (k14 a e h0).1⟩
/-- The stored events of a list that reads as events. -/
theorem Evs.stored {S : Nat → Prop} {w : World} {A : Option Addr} {l : List Ev} (h : Evs S w A l) :
    ∃ σ : List SEv, σ.map (·.1) = l ∧ (∀ s ∈ σ, KidOk S w s) ∧ (0 < l.length → ∃ b off, A = some ⟨b, off, none⟩ ∧ S b ∧ ∀ (j : Nat) (s : SEv), σ[j]? = some s → ∀ f, f < 2 → w.cell? ⟨b, off + 2 * j + f, none⟩ = (cellsS s)[f]?) := by
  by_cases h0 : 0 < l.length
  · obtain ⟨b, off, rfl, hn⟩ := h h0
    have one : ∀ (l' : List Ev) (i : Nat), (∀ j n, l'[j]? = some n → EvAt S w b (off + 2 * (i + j)) n) →
        ∃ σ : List SEv, σ.map (·.1) = l' ∧ (∀ s ∈ σ, KidOk S w s) ∧ ∀ (j : Nat) (s : SEv), σ[j]? = some s → ∀ f, f < 2 → w.cell? ⟨b, off + 2 * (i + j) + f, none⟩ = (cellsS s)[f]? := by
      intro l'
      induction l' with
      | nil => intro i _; exact ⟨[], rfl, fun s hs => by simp at hs, fun j s hs => by simp at hs⟩
      | cons n l' ih =>
        intro i hi
        obtain ⟨σ, e1, e2, e3⟩ := ih (i + 1) (fun j x hj => by rw [show i + 1 + j = i + (j + 1) by omega]; exact hi (j + 1) x (by simpa using hj))
        obtain ⟨x0, s0, K, c, x1, hK, hKc, hcK, hb, hKs⟩ := hi 0 n rfl
        refine ⟨(n, K, c) :: σ, by rw [List.map_cons, e1], fun s hs => ?_, fun j s hj f hf => ?_⟩
        · rcases List.mem_cons.1 hs with rfl | hs
          · exact ⟨⟨s0, hK, hKc, hcK⟩, hKs⟩
          · exact e2 s hs
        · cases j with
          | zero =>
            simp only [List.getElem?_cons_zero, Option.some.injEq] at hj
            subst hj
            match f, hf with
            | 0, _ => exact x0
            | 1, _ => exact x1
          | succ j =>
            rw [show i + (j + 1) = i + 1 + j by omega]
            exact e3 j s (by simpa using hj) f hf
    obtain ⟨σ, e1, e2, e3⟩ := one l 0 (fun j n hj => by rw [Nat.zero_add]; exact hn j n hj)
    obtain ⟨n, hn0⟩ : ∃ n, l[0]? = some n := ⟨_, List.getElem?_eq_getElem h0⟩
    obtain ⟨-, -, -, -, -, -, -, -, hb, -⟩ := hn 0 n hn0
    exact ⟨σ, e1, e2, fun _ => ⟨b, off, rfl, hb, fun j s hs f hf => by have := e3 j s hs f hf; rwa [Nat.zero_add] at this⟩⟩
  · have : l = [] := List.eq_nil_of_length_eq_zero (by omega)
    subst this
    exact ⟨[], rfl, fun s hs => by simp at hs, fun h => absurd h h0⟩

theorem infoEvent : (Tryz.prog.info? 38).map (fun i => (i.zero, i.size, i.bytes)) = some (some (.agg #[.int .u64 0, .slice none 0 0]), 2, 32) := by kernel_rfl

/-- What append leaves: the row with the new events. -/
theorem own_grown {S : Nat → Prop} {w1 w' : World} {base : Nat} {v v' : Value} {σ τ : List SEv} (h2 : ∀ s ∈ σ, KidOk (fun b => S b ∧ some b ≠ v.ownBlock) w1 s) (k2 : ∀ s ∈ τ, KidOk (fun b => S b ∧ some b ≠ v.ownBlock) w1 s)
    (hr : w'.ownsRow base 38 2 v' (σ ++ τ).length (rowS (σ ++ τ))) (hg : w1.grownBy w' v.ownBlock) (hat : v'.ownBlock = v.ownBlock ∨ v'.ownBlock = some w1.heap.size) : OwnEvs S w' base v' (σ ++ τ) := by
  refine ⟨hr, fun s hs => ?_⟩
  have h3 : KidOk (fun b => S b ∧ some b ≠ v.ownBlock) w1 s := (List.mem_append.1 hs).elim (h2 s) (k2 s)
  have h4 := (h3.mono (S' := fun b => (S b ∧ some b ≠ v.ownBlock) ∧ b < w1.heap.size) fun b hb hp => ⟨hp, hb⟩).keep (w' := w') fun _ _ hp hc => hg.cell hc hp.1.2
  exact h4.mono fun b _ hp => ⟨hp.1.1, by
    rcases hat with e | e
    · rw [e]; exact hp.1.2
    · rw [e]; intro e2; injection e2 with e2; omega⟩

section
variable {P : Program} {w : World}
/-- 'append(v, n)': v is the call's own row of events; n lies in a new block of two cells. -/
theorem wpList_append_nd {ops : Array Oper} {rest : List Oper} {o : Oper} {a : Act} {Q : Exit → Act → World → Prop} (hgd : o.guard = none) (s x : Operand) (t : TypeId)
    (ho : o.op = .call { callee := .builtin .append, args := #[s, x], argTypes := #[t, t] }) (base : Nat) (i : TypeInfo) (z : Value)
    (ht : P.underlying t = some (.slice 38)) (hi : P.info? 38 = some i) (hz : i.zero = some z) (hsize : i.size = 2) (hby : i.bytes = 32) (hzs : z.cells.size = 2)
    (v : Value) (l : List SEv) (hs : a.eval s = v) (S : Nat → Prop) (hown : OwnEvs S w base v l)
    (sn : SEv) (hk : KidOk (fun b => S b ∧ some b ≠ v.ownBlock) w sn) (T : TypeId) (cs : Array Value) (hcs : cs = (cellsS sn).toArray) (H : Nat) (hH : w.heap.size = H) (hx : a.eval x = .slice (some ⟨H, 0, none⟩) 1 1)
    (hl : l.length ≤ 4194304) (hbase : base ≤ w.heap.size)
    (h : ∀ v' w', OwnEvs S w' base v' (l ++ [sn]) → (w.alloc (.cells cs T)).grownBy w' v.ownBlock → (v'.ownBlock = v.ownBlock ∨ v'.ownBlock = some (w.alloc (.cells cs T)).heap.size) → wpList P ops Q rest (a.put o.dst v') w') : wpList P ops Q (o :: rest) a (w.alloc (.cells cs T)) := by
  subst hcs
  subst hH
  refine wpList_plain hgd fun K hK => ?_
  obtain ⟨v', w', hrun, h1, h2, -, h4⟩ := run_append_own_at (P := P) (w.alloc (.cells (cellsS sn).toArray T)) base t o.type 38 i z 2 32 ht hi hz hsize hby hzs (by decide) v l.length (rowS l) (hown.1.alloc _) ⟨w.heap.size, 0, none⟩ 1 1 (cellsS sn) rfl (fun j u hu => by
      rw [show (⟨w.heap.size, 0, none⟩ : Addr).add j = ⟨w.heap.size, j, none⟩ by unfold Addr.add; split <;> simp_all]
      rw [cell_of_row _ w.heap.size j _ T (0, 0) (heap_alloc_new w _)]
      simpa using hu) (cellsS_one sn) (by have : maxLen = 9223372036854775807 := rfl; omega) (by omega) (by simp; omega)
  unfold Oper.wp
  simp [execOp, ho, resolve, invoke, builtin, hs, hx, hrun, Result.andThen]
  refine hK _ _ (h v' w' (own_grown (w1 := w.alloc (.cells (cellsS sn).toArray T)) (fun s hs => (hown.2 s hs).below ((Below.refl _ _).alloc (Nat.le_refl _) _)) (fun s hs => by rw [List.mem_singleton.1 hs]; exact hk.below ((Below.refl _ _).alloc (Nat.le_refl _) _)) ?_ h2 h4) h2 h4)
  rw [rowS_append, List.length_append]
  have e : rowS [sn] = cellsS sn := by simp [rowS]
  rw [e]
  exact h1
/-- 'append(v, a...)': v is the call's own row of events; a reads as events. -/
theorem wpList_append_nds {ops : Array Oper} {rest : List Oper} {o : Oper} {a : Act} {Q : Exit → Act → World → Prop} (hgd : o.guard = none) (s x : Operand) (t : TypeId)
    (ho : o.op = .call { callee := .builtin .append, args := #[s, x], argTypes := #[t, t] }) (base : Nat) (i : TypeInfo) (z : Value)
    (ht : P.underlying t = some (.slice 38)) (hi : P.info? 38 = some i) (hz : i.zero = some z) (hsize : i.size = 2) (hby : i.bytes = 32) (hzs : z.cells.size = 2)
    (v : Value) (l : List SEv) (hs : a.eval s = v) (S : Nat → Prop) (hown : OwnEvs S w base v l)
    (A : Option Addr) (n c : Nat) (m : List Ev) (hm : m.length = n) (hx : a.eval x = .slice A n c) (hnd : Evs (fun b => S b ∧ some b ≠ v.ownBlock) w A m)
    (hl : l.length + n ≤ 4194304) (hbase : base ≤ w.heap.size)
    (h : ∀ v' w' τ, τ.map (·.1) = m → OwnEvs S w' base v' (l ++ τ) → w.grownBy w' v.ownBlock → (v'.ownBlock = v.ownBlock ∨ v'.ownBlock = some w.heap.size) → wpList P ops Q rest (a.put o.dst v') w') : wpList P ops Q (o :: rest) a w := by
  obtain ⟨τ, e1, e2, e3⟩ := hnd.stored
  have hτ : τ.length = n := by rw [← hm, ← e1, List.length_map]
  refine wpList_plain hgd fun K hK => ?_
  cases A with
  | some ad =>
    have hnews : ∀ j u, (rowS τ)[j]? = some u → w.cell? (ad.add j) = some u := fun j u hu => by
      have hj : j < (rowS τ).length := (List.getElem?_eq_some_iff.1 hu).1
      rw [rowS_len] at hj
      obtain ⟨b, off, e, -, hc⟩ := e3 (by omega)
      injection e with e
      subst e
      have hq : j / 2 < τ.length := by omega
      have h1 := hc (j / 2) _ (List.getElem?_eq_getElem hq) (j % 2) (Nat.mod_lt _ (by decide))
      have h2 : (⟨b, off, none⟩ : Addr).add j = ⟨b, off + 2 * (j / 2) + j % 2, none⟩ := by
        have : off + j = off + 2 * (j / 2) + j % 2 := by omega
        rw [← this]
        unfold Addr.add; split <;> simp_all
      rw [h2, h1, ← rowS_at τ (j / 2) _ (List.getElem?_eq_getElem hq) (j % 2) (Nat.mod_lt _ (by decide)), ← hu]
      congr 1
      omega
    obtain ⟨v', w', hrun, h1, h2, -, h4⟩ := run_append_own_at (P := P) w base t o.type 38 i z 2 32 ht hi hz hsize hby hzs (by decide) v l.length (rowS l) hown.1 ad n c (rowS τ) (by rw [rowS_len, hτ]) hnews (rowS_one τ) (by have : maxLen = 9223372036854775807 := rfl; omega) (by omega) hbase
    unfold Oper.wp
    simp [execOp, ho, resolve, invoke, builtin, hs, hx, hrun, Result.andThen]
    refine hK _ _ (h v' w' τ e1 (own_grown (w1 := w) hown.2 e2 ?_ h2 h4) h2 h4)
    rw [rowS_append, List.length_append, hτ]
    exact h1
  | none =>
    have hn0 : n = 0 := by
      rcases Nat.eq_zero_or_pos n with h' | h'
      · exact h'
      · obtain ⟨_, _, e, _⟩ := e3 (by omega)
        cases e
    subst hn0
    have hτ0 : τ = [] := List.eq_nil_of_length_eq_zero hτ
    subst hτ0
    have hrun : (Builtin.append_ #[t, t] o.type #[v, .slice none 0 c]).run P w = .ok v w := by
      rcases hown.1.2 with ⟨rfl, -⟩ | ⟨g, cap, cur, rfl, _, _, hnc, _⟩
      · simp [Builtin.append_, run_underlying ht, sizeOf, typeInfo, hi, Builtin.lenOf, Builtin.firstCells]
      · simp [Builtin.append_, run_underlying ht, sizeOf, typeInfo, hi, Builtin.lenOf, Builtin.firstCells, hnc, storeCells]
    unfold Oper.wp
    simp [execOp, ho, resolve, invoke, builtin, hs, hx, hrun, Result.andThen]
    exact hK _ _ (h v w [] e1 (by rw [List.append_nil]; exact hown) (World.grownBy.refl w _) (Or.inl rfl))
/-- 'append(v, a...)' at a step of a region that draws its order. -/
theorem step_append_evs {ops : Array Oper} {o : Oper} {a : Act} {K : Act → World → Prop} {Q : Exit → Act → World → Prop} {E : Prop} (hgd : o.guard = none) (s x : Operand) (t : TypeId)
    (ho : o.op = .call { callee := .builtin .append, args := #[s, x], argTypes := #[t, t] }) (base : Nat) (i : TypeInfo) (z : Value)
    (ht : P.underlying t = some (.slice 38)) (hi : P.info? 38 = some i) (hz : i.zero = some z) (hsize : i.size = 2) (hby : i.bytes = 32) (hzs : z.cells.size = 2)
    (v : Value) (l : List SEv) (hs : a.eval s = v) (S : Nat → Prop) (hown : OwnEvs S w base v l)
    (A : Option Addr) (n c : Nat) (m : List Ev) (hm : m.length = n) (hx : a.eval x = .slice A n c) (hnd : Evs (fun b => S b ∧ some b ≠ v.ownBlock) w A m)
    (hl : l.length + n ≤ 4194304) (hbase : base ≤ w.heap.size)
    (h : ∀ v' w' τ, τ.map (·.1) = m → OwnEvs S w' base v' (l ++ τ) → w.grownBy w' v.ownBlock → (v'.ownBlock = v.ownBlock ∨ v'.ownBlock = some w.heap.size) → K (a.put o.dst v') w') :
    if Region.wanted o (yielded ops a.tmps) = true then Oper.wp P o a w K Q else E := by
  have hw : Region.wanted o (yielded ops a.tmps) = true := by simp [Region.wanted, hgd]
  rw [if_pos hw]
  obtain ⟨τ, e1, e2, e3⟩ := hnd.stored
  have hτ : τ.length = n := by rw [← hm, ← e1, List.length_map]
  cases A with
  | some ad =>
    have hnews : ∀ j u, (rowS τ)[j]? = some u → w.cell? (ad.add j) = some u := fun j u hu => by
      have hj : j < (rowS τ).length := (List.getElem?_eq_some_iff.1 hu).1
      rw [rowS_len] at hj
      obtain ⟨b, off, e, -, hc⟩ := e3 (by omega)
      injection e with e
      subst e
      have hq : j / 2 < τ.length := by omega
      have h1 := hc (j / 2) _ (List.getElem?_eq_getElem hq) (j % 2) (Nat.mod_lt _ (by decide))
      have h2 : (⟨b, off, none⟩ : Addr).add j = ⟨b, off + 2 * (j / 2) + j % 2, none⟩ := by
        have : off + j = off + 2 * (j / 2) + j % 2 := by omega
        rw [← this]
        unfold Addr.add; split <;> simp_all
      rw [h2, h1, ← rowS_at τ (j / 2) _ (List.getElem?_eq_getElem hq) (j % 2) (Nat.mod_lt _ (by decide)), ← hu]
      congr 1
      omega
    obtain ⟨v', w', hrun, h1, h2, -, h4⟩ := run_append_own_at (P := P) w base t o.type 38 i z 2 32 ht hi hz hsize hby hzs (by decide) v l.length (rowS l) hown.1 ad n c (rowS τ) (by rw [rowS_len, hτ]) hnews (rowS_one τ) (by have : maxLen = 9223372036854775807 := rfl; omega) (by omega) hbase
    unfold Oper.wp
    simp [execOp, ho, resolve, invoke, builtin, hs, hx, hrun, Result.andThen]
    refine h v' w' τ e1 (own_grown (w1 := w) hown.2 e2 ?_ h2 h4) h2 h4
    rw [rowS_append, List.length_append, hτ]
    exact h1
  | none =>
    have hn0 : n = 0 := by
      rcases Nat.eq_zero_or_pos n with h' | h'
      · exact h'
      · obtain ⟨_, _, e, _⟩ := e3 (by omega)
        cases e
    subst hn0
    have hτ0 : τ = [] := List.eq_nil_of_length_eq_zero hτ
    subst hτ0
    have hrun : (Builtin.append_ #[t, t] o.type #[v, .slice none 0 c]).run P w = .ok v w := by
      rcases hown.1.2 with ⟨rfl, -⟩ | ⟨g, cap, cur, rfl, _, _, hnc, _⟩
      · simp [Builtin.append_, run_underlying ht, sizeOf, typeInfo, hi, Builtin.lenOf, Builtin.firstCells]
      · simp [Builtin.append_, run_underlying ht, sizeOf, typeInfo, hi, Builtin.lenOf, Builtin.firstCells, hnc, storeCells]
    unfold Oper.wp
    simp [execOp, ho, resolve, invoke, builtin, hs, hx, hrun, Result.andThen]
    exact h v w [] e1 (by rw [List.append_nil]; exact hown) (World.grownBy.refl w _) (Or.inl rfl)
end

/-- 'append(v, n)' at such a step: v is the call's own row of events, n lies in the block H. -/
theorem step_append_ev {P : Program} {w : World} {ops : Array Oper} {o : Oper} {a : Act} {K : Act → World → Prop} {Q : Exit → Act → World → Prop} {E : Prop} (hgd : o.guard = none) (s x : Operand) (t : TypeId)
    (ho : o.op = .call { callee := .builtin .append, args := #[s, x], argTypes := #[t, t] }) (base : Nat) (i : TypeInfo) (z : Value)
    (ht : P.underlying t = some (.slice 38)) (hi : P.info? 38 = some i) (hz : i.zero = some z) (hsize : i.size = 2) (hby : i.bytes = 32) (hzs : z.cells.size = 2)
    (v : Value) (l : List SEv) (hs : a.eval s = v) (S : Nat → Prop) (hown : OwnEvs S w base v l)
    (sn : SEv) (hk : KidOk (fun b => S b ∧ some b ≠ v.ownBlock) w sn) (H : Nat) (T : TypeId) (fr : Nat × Nat) (hblk : w.heap[H]? = some (.cells (cellsS sn).toArray T fr)) (hx : a.eval x = .slice (some ⟨H, 0, none⟩) 1 1)
    (hl : l.length ≤ 4194303) (hbase : base ≤ w.heap.size)
    (h : ∀ v' w', OwnEvs S w' base v' (l ++ [sn]) → w.grownBy w' v.ownBlock → (v'.ownBlock = v.ownBlock ∨ v'.ownBlock = some w.heap.size) → K (a.put o.dst v') w') :
    if Region.wanted o (yielded ops a.tmps) = true then Oper.wp P o a w K Q else E := by
  have hw : Region.wanted o (yielded ops a.tmps) = true := by simp [Region.wanted, hgd]
  rw [if_pos hw]
  obtain ⟨v', w', hrun, h1, h2, -, h4⟩ := run_append_own_at (P := P) w base t o.type 38 i z 2 32 ht hi hz hsize hby hzs (by decide) v l.length (rowS l) hown.1 ⟨H, 0, none⟩ 1 1 (cellsS sn) rfl (fun j u hu => by
    rw [show (⟨H, 0, none⟩ : Addr).add j = ⟨H, j, none⟩ by unfold Addr.add; split <;> simp_all]
    rw [cell_of_row w H j _ T fr hblk]
    simpa using hu) (cellsS_one sn) (by have : maxLen = 9223372036854775807 := rfl; omega) (by omega) hbase
  unfold Oper.wp
  simp [execOp, ho, resolve, invoke, builtin, hs, hx, hrun, Result.andThen]
  refine h v' w' (own_grown (w1 := w) hown.2 (fun s hs => by rw [List.mem_singleton.1 hs]; exact hk) ?_ h2 h4) h2 h4
  rw [rowS_append, List.length_append]
  have e : rowS [sn] = cellsS sn := by simp [rowS]
  rw [e]
  exact h1
end Go.Proofs.YtimbbfneaaglbaaGreat.Trace
