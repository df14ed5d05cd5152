/-
  The walk of the law's Copy: a list of its own, each node's kids in a row of their own. One value of one node of a row of one's own set anew.
  Made of several texts by wip/tools/mergetpl.py. By an AI agent.
-/
import Derived.Test.YtmahbocelckmcaaTreePart2
import Derived.Test.YtmahbocelckmcaaIntsAt

/- The walk of the law's Copy: a list of its own, each node's kids in a row of their own. By an AI agent. -/
namespace Go.Proofs.Ytmahbocelckmcaa.Tree
open Go.RowKit Go.Proofs.Ytmahbocelckmcaa.Ints

/-- The block of a node's kids. -/
def kb (s : SNd) : Option Nat := s.2.1.map (·.block)
theorem kb_own (K : Option Addr) (n c : Nat) : (Value.slice K n c).ownBlock = K.map (·.block) := by cases K <;> rfl
def KidRow (w : World) (base : Nat) (s : SNd) : Prop := w.ownsRow base 3 1 (.slice s.2.1 s.1.kids.length s.2.2) s.1.kids.length (s.1.kids.map (Value.int .i64))
theorem KidRow.lt {w : World} {base : Nat} {s : SNd} (h : KidRow w base s) {q : Nat} (hq : kb s = some q) : base ≤ q ∧ q < w.heap.size := World.ownsRow.lt h q (by rw [kb_own]; exact hq)
theorem KidRow.below {w w' : World} {base : Nat} {s : SNd} (h : KidRow w base s) (hb : Below w.heap.size w w') : KidRow w' base s := below_row h hb
def KidsOwn (w : World) (base : Nat) (v : Value) (σ : List SNd) : Prop := ∀ s ∈ σ, KidRow w base s ∧ (kb s = none ∨ kb s ≠ v.ownBlock)
def Sep (σ : List SNd) : Prop := σ.Pairwise fun s t => kb s = none ∨ kb s ≠ kb t
theorem KidsOwn.below {w w' : World} {base : Nat} {v : Value} {σ : List SNd} (h : KidsOwn w base v σ) (hb : Below w.heap.size w w') : KidsOwn w' base v σ := fun s hs => ⟨(h s hs).1.below hb, (h s hs).2⟩
theorem KidsOwn.snoc {w w3 : World} {base : Nat} {v v' : Value} {σ : List SNd} {sn : SNd} {o : Obj} (h : KidsOwn w base v σ) (hn : KidRow w base sn) (hne : kb sn = none ∨ kb sn ≠ v.ownBlock) (hg : (w.alloc o).grownBy w3 v.ownBlock) (hat : v'.ownBlock = v.ownBlock ∨ v'.ownBlock = some (w.alloc o).heap.size) : KidsOwn w3 base v' (σ ++ [sn]) := by
  have key : ∀ s, KidRow w base s → (kb s = none ∨ kb s ≠ v.ownBlock) → KidRow w3 base s ∧ (kb s = none ∨ kb s ≠ v'.ownBlock) := fun s h1 h2 => by
    refine ⟨(World.ownsRow.alloc h1 o).kept hg (by rw [kb_own]; exact h2), ?_⟩
    cases hk : kb s with
    | none => exact Or.inl rfl
    | some g =>
      refine Or.inr fun e => ?_
      rw [hk] at h2
      rcases hat with e2 | e2
      · rcases h2 with h2 | h2
        · cases h2
        · exact h2 (e.trans e2)
      · have := (h1.lt hk).2
        rw [e2] at e
        injection e with e
        simp at e
        omega
  intro s hs
  rcases List.mem_append.1 hs with hs | hs
  · exact key s (h s hs).1 (h s hs).2
  · rw [List.mem_singleton.1 hs]; exact key sn hn hne
theorem Sep.snoc {w : World} {base : Nat} {v : Value} {σ : List SNd} {sn : SNd} (h : Sep σ) (hk : KidsOwn w base v σ) (hn : ∀ q, kb sn = some q → w.heap.size ≤ q) : Sep (σ ++ [sn]) := by
  unfold Sep
  rw [List.pairwise_append]
  refine ⟨h, by simp, fun s hs t ht => ?_⟩
  rw [List.mem_singleton.1 ht]
  cases hkb : kb s with
  | none => exact Or.inl rfl
  | some g =>
    refine Or.inr fun e => ?_
    have := ((hk s hs).1.lt hkb).2
    have := hn g e.symm
    omega
/-- What Copy leaves. -/
def GotCopy (w : World) (l : List Nd) (e : Ending) (w' : World) : Prop :=
  ∃ v σ, e = .returned v ∧ OwnNodes (fun b => w.heap.size ≤ b) w' w.heap.size v σ ∧ σ.map (·.1) = l ∧ KidsOwn w' w.heap.size v σ ∧ Sep σ ∧ Below w.heap.size w w'
theorem row_setCell {w : World} {base g j : Nat} {e : TypeId} {v u : Value} {n : Nat} {xs : List Value} (h : w.ownsRow base e 1 v n xs) (hg : g < base) : (w.setCell ⟨g, j, none⟩ u).ownsRow base e 1 v n xs :=
  h.kept (row := some g) ⟨rfl, rfl, rfl, by simp, fun i _ hne => Below.heap_setCell w _ u i (fun e => hne (by rw [e]))⟩ (by
    cases hv : v.ownBlock with
    | none => exact Or.inl rfl
    | some q => exact Or.inr fun e => by injection e with e; have := (h.lt q hv).1; omega)
/-- The new node's kids behind the store into the box. -/
theorem copy_kid {w wr w1 : World} {nd : Nd} {K' : Option Addr} {m c' : Nat} {u : Value} (hm : nd.kids.length = m) (h : w1.ownsRow (wr.heap.size + 1) 3 1 (.slice K' m c') nd.kids.length (nd.kids.map (Value.int .i64))) (hw : w.heap.size ≤ wr.heap.size) : KidRow (w1.setCell ⟨wr.heap.size, 4, none⟩ u) w.heap.size (nd, K', c') ∧ ∀ q, kb (nd, K', c') = some q → wr.heap.size + 1 ≤ q := by
  have h2 := row_setCell (j := 4) (u := u) h (Nat.lt_succ_self wr.heap.size)
  subst hm
  exact ⟨own_weaken h2 (by omega), fun q hq => (World.ownsRow.lt h2 q (by rw [kb_own K']; exact hq)).1⟩
theorem copy_row (wr : World) (o : Obj) : ((wr.alloc o).alloc (.cells #[] 3)).ownsRow (wr.heap.size + 1) 3 1 (.slice (some ⟨wr.heap.size + 1, 0, none⟩) 0 0) 0 (([] : List Int).map (Value.int .i64)) := by
  have := World.ownsRow_made (base := wr.heap.size + 1) (e := 3) (size := 1) (wr.alloc o) #[] 0 (by simp) (by decide) rfl
  simpa using this

set_option maxHeartbeats 8000000 in
set_option maxRecDepth 100000 in
theorem lawCopy (A : Option Addr) (n c : Nat) (l : List Nd) (w : World) (hl : l.length = n) (hn : n ≤ 1048576) (hk2 : ∀ x ∈ l, x.kids.length ≤ 2) (h : Nodes Any w A l) :
    Calls Try.prog 16 #[.slice A n c] w (GotCopy w l) := by
  obtain ⟨i0, hi0, hz0, hz1, hz2⟩ := info_parts infoInt
  obtain ⟨j0, hj0, hy0, hy1, hy2⟩ := info_parts infoNode
  have hni : (n : Int) ≤ 1048576 := by omega
  have HL := Lib.hid hl
  have HD := Lib.hid h
  have HK2 := Lib.hid hk2
  clear hl hn h hk2
  go_enter Try.func16, Try.ntmps16
  go_wp2
  go_loopw [3, 8] (fun v i wr => ∃ (k : Nat) (σ : List SNd), k ≤ n ∧ i = .int .i64 k ∧ OwnNodes (fun b => w.heap.size ≤ b) wr w.heap.size v σ ∧ σ.length = k ∧ Hid (σ.map (·.1) = l.take k ∧ KidsOwn wr w.heap.size v σ ∧ Sep σ) ∧ Below w.heap.size w wr) (fun _ i _ => n - (intOf i).toNat)
  case atStart => exact ⟨0, [], Nat.zero_le _, rfl, OwnNodes.nil _ _ _, rfl, ⟨rfl, fun s hs => by simp at hs, List.Pairwise.nil⟩, Below.refl _ _⟩
  case round =>
    obtain ⟨k, σ, hk, rfl, hown, hσ, HC, hB⟩ := hrel
    have HO := Lib.hid hown
    have HB := Lib.hid hB
    have HSG := Lib.hid hσ
    clear hown hB hσ
    by_cases hkn : k < n
    · have hkn' : (k : Int) < (n : Int) := by omega
      obtain ⟨b, off, e, hnodes⟩ := (HD.out.below HB.out) (by have := HL.out; omega)
      obtain ⟨nd, hnd⟩ : ∃ nd, l[k]? = some nd := ⟨_, List.getElem?_eq_getElem (by have := HL.out; omega)⟩
      obtain ⟨x0, x1, x2, x3, s0, s2, s3, s1, K, cK, x4, hK, hKc, hcK, -, -⟩ := hnodes k nd hnd
      rw [Nat.mul_comm 5 k] at x0 x1 x2 x3 x4
      obtain ⟨m, hm⟩ : ∃ m, nd.kids.length = m := ⟨_, rfl⟩
      have hm2 : m ≤ 2 := by rw [← hm]; exact HK2.out nd (List.mem_of_getElem? hnd)
      rw [hm] at x4 hK hKc
      have HND := Lib.hid hnd
      have HM := Lib.hid hm
      have HRK := Lib.hid hK
      have HSM := Lib.hid (⟨s0, s2, s3, s1⟩ : small64 nd.kind ∧ small64 nd.lo ∧ small64 nd.hi ∧ nd.name.size ≤ maxLen)
      have HCR := Lib.hid (fun o => copy_row wr o)
      have HZO := Lib.hid (fun o : Obj => (show wr.heap.size + 1 ≤ ((wr.alloc o).alloc (.cells #[] 3)).heap.size by simp))
      have HSL := Lib.hid (show σ.length ≤ 4194304 by have := HSG.out; omega)
      subst e
      clear hnd hnodes hK s0 s1 s2 s3 hm
      go_wp2_with (first
        | (at_builtin; (refine wpList_append_ints rfl (.tmp 12) (.tmp 14) 31 rfl .i64 (wr.heap.size + 1) 3 i0 8 Try.underlying31 hi0 hz0 hz1 hz2 (.slice (some ⟨wr.heap.size + 1, 0, none⟩) 0 0) 0 [] (by rfl) (HCR.out _) K m cK nd.kids (by rfl) (HRK.out.below (((Below.refl _ _).alloc (Nat.le_refl _) _).alloc (le_alloc (Nat.le_refl _)) _)) (by have : maxLen = 9223372036854775807 := rfl; omega) (by omega) (HZO.out _) ?_); intro v1 w1 hown1 hgr1; rw [Nat.zero_add, List.nil_append, ← HM.out] at hown1; obtain ⟨s0, s2, s3, s1⟩ := HSM.out; obtain ⟨K', c', e', hko⟩ := kid_own (S := fun b => wr.heap.size + 1 ≤ b) hown1 HRK.out.all s0 s2 s3 s1 (fun b hb => hb); rw [HM.out] at e'; subst e'; have HKR := Lib.hid hown1; have HKO := Lib.hid hko; have hbB := ((Below.refl (wr.heap.size + 1) (wr.alloc (.cells #[.int .i64 nd.kind, .string nd.name, .int .i64 nd.lo, .int .i64 nd.hi, .slice K m cK] 33))).alloc (by simp) (.cells #[] 3)).grown hgr1 (HZO.out _) (fun z hz => by simp [Value.ownBlock] at hz; omega); have hbx := hbB.mono (show (wr.alloc (.cells #[.int .i64 nd.kind, .string nd.name, .int .i64 nd.lo, .int .i64 nd.hi, .slice K m cK] 33)).heap.size ≤ wr.heap.size + 1 by simp); have hx0 := below_cell hbx (box_cell 0 (.int .i64 nd.kind) rfl); have hx1 := below_cell hbx (box_cell 1 (.string nd.name) rfl); have hx2 := below_cell hbx (box_cell 2 (.int .i64 nd.lo) rfl); have hx3 := below_cell hbx (box_cell 3 (.int .i64 nd.hi) rfl); have hx4 := below_cell hbx (box_cell 4 (.slice K m cK) rfl); have hfz : w1.frozen? ⟨wr.heap.size, 4, none⟩ = false := ((fcell hbx).2 wr.heap.size 4 (by simp)).trans (by simp); have HBO := Lib.hid (((Below.refl _ _).alloc (Nat.le_refl _) _).trans (hbx.mono (by simp))); have HBX := Lib.hid hbB; have hBW := HBO.out.setCell (p := ⟨wr.heap.size, 4, none⟩) (Nat.le_refl _) (.slice K' m c'); have HBW := Lib.hid hBW; have HOX := Lib.hid (HO.out.below hBW); have HLT := Lib.hid (fun z hz => (HO.out.1.lt z hz).2); have HKN := Lib.hid (show KidOk (fun b => w.heap.size ≤ b ∧ some b ≠ Value.ownBlock u3) (w1.setCell ⟨wr.heap.size, 4, none⟩ (.slice K' m c')) (nd, K', c') from (hko.setCell _ _ (fun b hb e => by simp only at e hb; omega)).mono fun b _ hb => ⟨Nat.le_trans HB.out.size (by omega), fun e => by have := HLT.out b e.symm; omega⟩); have HQ0 := Lib.hid (show (#[.int .i64 nd.kind, .string nd.name, .int .i64 nd.lo, .int .i64 nd.hi, .slice K' m c'] : Array Value) = (cellsS (nd, K', c')).toArray by rw [← HM.out]; rfl); have HQ1 := Lib.hid (show (w1.setCell ⟨wr.heap.size, 4, none⟩ (.slice K' m c')).heap.size = w1.heap.size by simp); have HQ2 := Lib.hid (Nat.le_trans HB.out.size hBW.size); have HCK := Lib.hid (copy_kid (u := .slice K' m c') HM.out hown1 HB.out.size); clear hown1 hgr1 hko hbx hbB s0 s1 s2 s3 hBW)
        | (at_builtin; (refine wpList_append_nd rfl (.tmp 17) (.tmp 19) 22 rfl w.heap.size j0 _ Try.underlying22 hj0 hy0 hy1 hy2 rfl _ σ (by rfl) (fun b => w.heap.size ≤ b) HOX.out (nd, K', c') HKN.out _ _ HQ0.out w1.heap.size HQ1.out (by rfl) HSL.out HQ2.out ?_); intro v2 w3 hown2 hgr2 hat2))
      go_roundw
      case rel =>
        refine ⟨k + 1, σ ++ [(nd, K', c')], by omega, by go_num, hown2, by rw [List.length_append, HSG.out]; rfl, ⟨?_, (HC.out.2.1.below HBW.out).snoc HCK.out.1 ?_ hgr2 hat2, HC.out.2.2.snoc HC.out.2.1 (fun q hq => by have := HCK.out.2 q hq; omega)⟩, (((HB.out.trans (HBW.out.mono HB.out.size)).alloc HQ2.out _).grown hgr2 (le_alloc HQ2.out) (fun z hz => (HO.out.1.lt z hz).1))⟩
        · obtain ⟨h1, h2⟩ := List.getElem?_eq_some_iff.1 HND.out
          rw [List.map_append, HC.out.1, List.take_succ_eq_append_getElem h1, h2]
          rfl
        · cases hq : kb (nd, K', c') with
          | none => exact Or.inl rfl
          | some q => exact Or.inr fun e => by have := HCK.out.2 q hq; have := HLT.out q e.symm; omega
      case measure => simp [intOf]; omega
    · have hge : decide ((k : Int) < (n : Int)) = false := by simp; omega
      have hT : l.take k = l := List.take_of_length_le (by have := HL.out; omega)
      have HF := Lib.hid (show σ.map (·.1) = l by rw [HC.out.1, hT])
      clear hT
      go_wp2
      go_ret
      exact ⟨_, σ, rfl, HO.out, HF.out, HC.out.2.1, HC.out.2.2, HB.out⟩
end Go.Proofs.Ytmahbocelckmcaa.Tree

/- One value of one node of a row of one's own set anew. By an AI agent. -/
namespace Go.Proofs.Ytmahbocelckmcaa.Tree
open Go.RowKit Go.Proofs.Ytmahbocelckmcaa.Ints

theorem rowS_set : ∀ (σ : List SNd) (i f : Nat) (s s' : SNd) (u : Value), σ[i]? = some s → f < 5 → cellsS s' = (cellsS s).set f u → rowS (σ.set i s') = (rowS σ).set (i * 5 + f) u
  | [], i, f, s, s', u, h, _, _ => by simp at h
  | x :: σ, 0, f, s, s', u, h, hf, hc => by
    simp only [List.getElem?_cons_zero, Option.some.injEq] at h
    subst h
    rw [List.set_cons_zero]
    show cellsS s' ++ rowS σ = (cellsS x ++ rowS σ).set (0 * 5 + f) u
    rw [hc, Nat.zero_mul, Nat.zero_add, List.set_append_left _ _ (by show f < 5; exact hf)]
  | x :: σ, i + 1, f, s, s', u, h, hf, hc => by
    have ih := rowS_set σ i f s s' u (by simpa using h) hf hc
    rw [List.set_cons_succ]
    show cellsS x ++ rowS (σ.set i s') = (cellsS x ++ rowS σ).set ((i + 1) * 5 + f) u
    rw [ih, List.set_append_right _ _ (by show 5 ≤ _; omega)]
    congr 2
    show i * 5 + f = (i + 1) * 5 + f - 5
    omega
theorem OwnNodes.set {S : Nat → Prop} {w : World} {base g n c i f : Nat} {σ : List SNd} {s s' : SNd} {u : Value} (h : OwnNodes S w base (.slice (some ⟨g, 0, none⟩) n c) σ) (hs : σ[i]? = some s) (hf : f < 5) (hc : cellsS s' = (cellsS s).set f u)
    (hk : KidOk (fun b => S b ∧ some b ≠ (Value.slice (some ⟨g, 0, none⟩) n c).ownBlock) w s') : OwnNodes S (w.setCell ⟨g, i * 5 + f, none⟩ u) base (.slice (some ⟨g, 0, none⟩) n c) (σ.set i s') := by
  obtain ⟨h1, h2⟩ := h
  have hn : n = σ.length := by
    rcases h1.2 with ⟨e, -⟩ | ⟨g', cap, cur, e, -⟩
    · cases e
    · injection e
  subst hn
  refine ⟨?_, fun t ht => ?_⟩
  · rw [List.length_set, rowS_set σ i f s s' u hs hf hc]
    exact (h1.stored (i * 5 + f) u).1
  · have ht' : KidOk (fun b => S b ∧ some b ≠ (Value.slice (some ⟨g, 0, none⟩) σ.length c).ownBlock) w t := by
      rcases List.mem_or_eq_of_mem_set ht with ht | rfl
      · exact h2 t ht
      · exact hk
    exact ht'.keep fun p v hp hv => (World.cell?_setCell_far w _ p u (fun e => hp.2 (by rw [← e]; rfl))).trans hv
/-- A row of one's own as an address and a capacity. -/
theorem OwnNodes.form {S : Nat → Prop} {w : World} {base : Nat} {v : Value} {σ : List SNd} (h : OwnNodes S w base v σ) (h0 : 0 < σ.length) : ∃ g c, v = .slice (some ⟨g, 0, none⟩) σ.length c ∧ base ≤ g ∧ g < w.heap.size ∧ σ.length ≤ c ∧ c ≤ maxLen := by
  have hlt := h.1.lt
  rcases h.1.2 with ⟨_, h2⟩ | ⟨g, cap, cur, rfl, _, _, h3, h4, _⟩
  · omega
  · exact ⟨g, cap, rfl, (hlt g rfl).1, (hlt g rfl).2, h3, h4⟩
/-- The cells of a node of such a row. -/
theorem OwnNodes.at {S : Nat → Prop} {w : World} {base g c : Nat} {σ : List SNd} (h : OwnNodes S w base (.slice (some ⟨g, 0, none⟩) σ.length c) σ) {i : Nat} {s : SNd} (hs : σ[i]? = some s) : ∀ f, f < 5 → w.cell? ⟨g, i * 5 + f, none⟩ = (cellsS s)[f]? ∧ w.frozen? ⟨g, i * 5 + f, none⟩ = false := fun f hf => by
  have hi : i < σ.length := (List.getElem?_eq_some_iff.1 hs).1
  refine ⟨?_, h.1.frozenAt _⟩
  rw [h.1.cellAt (i * 5 + f) (by omega), ← rowS_at σ i s hs f hf, Nat.mul_comm]
theorem map_set {σ : List SNd} {i : Nat} {s' : SNd} : (σ.set i s').map (·.1) = (σ.map (·.1)).set i s'.1 := List.map_set ..
end Go.Proofs.Ytmahbocelckmcaa.Tree
