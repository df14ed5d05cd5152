/-
  The landed walk and reach (stage 15). By an AI agent.
  The landed reach: the ways between the points of a part (stage 15). By an AI agent.
-/
import Derived.Test.YtdbgaccnejffpaaGreatDoorGSatDual1
import Derived.Test.YtdbgaccnejffpaaGreatDoorGSatDual27
import Derived.Test.YtdbgaccnejffpaaGreatDoorGSatDual33
namespace Go.Proofs.YtdbgaccnejffpaaGreatDoor.Sat
open Go.RowKit Go.Proofs.YtdbgaccnejffpaaGreatDoor.Ints Go.Proofs.YtdbgaccnejffpaaGreatDoor.Mem Go.Proofs.YtdbgaccnejffpaaGreatDoor.Src Go.Proofs.YtdbgaccnejffpaaGreatDoor.Paths Go.Proofs.YtdbgaccnejffpaaGreatDoor.Late Go.Proofs.YtdbgaccnejffpaaGreatDoor.Trace Go.Proofs.YtdbgaccnejffpaaGreatDoor.RdW Go.Proofs.YtdbgaccnejffpaaGreatDoor.Words Go.Proofs.YtdbgaccnejffpaaGreatDoor.BitsWalks
theorem red_small : ∀ (x : RE), ∀ n ∈ redE x, n.lo = 0 ∧ n.hi = 0 ∧ n.name = ⟨#[]⟩ ∧ 1 ≤ n.kind ∧ n.kind ≤ 22 ∧ ∀ z ∈ n.kids, 0 ≤ z ∧ z < (redE x).length := by
 have over : ∀ (k : Int) (a b : List Tree.Nd), 1 ≤ k → k ≤ 22 → (∀ n ∈ a, n.lo = 0 ∧ n.hi = 0 ∧ n.name = ⟨#[]⟩ ∧ 1 ≤ n.kind ∧ n.kind ≤ 22 ∧ ∀ z ∈ n.kids, 0 ≤ z ∧ z < a.length) → (∀ n ∈ b, n.lo = 0 ∧ n.hi = 0 ∧ n.name = ⟨#[]⟩ ∧ 1 ≤ n.kind ∧ n.kind ≤ 22 ∧ ∀ z ∈ n.kids, 0 ≤ z ∧ z < b.length) →
   ∀ n ∈ Tree.overL (Tree.kindNd k) a b, n.lo = 0 ∧ n.hi = 0 ∧ n.name = ⟨#[]⟩ ∧ 1 ≤ n.kind ∧ n.kind ≤ 22 ∧ ∀ z ∈ n.kids, 0 ≤ z ∧ z < (Tree.overL (Tree.kindNd k) a b).length := fun k a b k1 k2 ha hb n hn => by
  rw [Paths.over_len]
  unfold Tree.overL at hn
  rcases List.mem_append.1 hn with hn | hn
  ·rcases List.mem_append.1 hn with hn | hn
   ·obtain ⟨h1, h2, h3, h4, h5, h6⟩ := ha n hn
    exact ⟨h1, h2, h3, h4, h5, fun z hz => by have := h6 z hz; omega⟩
   ·obtain ⟨n', hn', rfl⟩ := List.mem_map.1 hn
    obtain ⟨h1, h2, h3, h4, h5, h6⟩ := hb n' hn'
    refine ⟨h1, h2, h3, h4, h5, fun z hz => ?_⟩
    obtain ⟨z', hz', rfl⟩ := List.mem_map.1 (show z ∈ n'.kids.map (· + (a.length : Int)) from hz)
    have := h6 z' hz'
    omega
  ·rw [List.mem_singleton.1 hn]
   refine ⟨rfl, rfl, rfl, k1, k2, fun z hz => ?_⟩
   have hz : z ∈ (if a = [] then [] else [(a.length : Int) - 1]) ++ (if b = [] then [] else [(a.length : Int) + b.length - 1]) := hz
   rcases List.mem_append.1 hz with hz | hz
   ·split at hz
    ·cases hz
    ·next e =>
     rw [List.mem_singleton.1 hz]
     have : 0 < a.length := List.length_pos_iff.2 e
     omega
   ·split at hz
    ·cases hz
    ·next e =>
     rw [List.mem_singleton.1 hz]
     have : 0 < b.length := List.length_pos_iff.2 e
     omega
 have one : ∀ (k : Int), 1 ≤ k → k ≤ 22 → ∀ n ∈ [Tree.kindNd k], n.lo = 0 ∧ n.hi = 0 ∧ n.name = ⟨#[]⟩ ∧ 1 ≤ n.kind ∧ n.kind ≤ 22 ∧ ∀ z ∈ n.kids, 0 ≤ z ∧ z < ([Tree.kindNd k]).length := fun k k1 k2 n hn => by
  rw [List.mem_singleton.1 hn]
  exact ⟨rfl, rfl, rfl, k1, k2, fun z hz => by cases hz⟩
 have nil : ∀ n ∈ ([] : List Tree.Nd), n.lo = 0 ∧ n.hi = 0 ∧ n.name = ⟨#[]⟩ ∧ 1 ≤ n.kind ∧ n.kind ≤ 22 ∧ ∀ z ∈ n.kids, 0 ≤ z ∧ z < ([] : List Tree.Nd).length := fun n hn => by cases hn
 intro x
 induction x with
 | no => exact one 18 (by decide) (by decide)
 | step => exact one 18 (by decide) (by decide)
 | test y => exact over 19 _ _ (by decide) (by decide) (one 1 (by decide) (by decide)) nil
 | alt a b iha ihb => exact over 20 _ _ (by decide) (by decide) iha ihb
 | seq a b iha ihb => exact over 21 _ _ (by decide) (by decide) iha ihb
 | many a iha => exact over 22 _ _ (by decide) (by decide) iha nil
theorem WM.reads {W : World} {lo gw : Nat} {lv tv vv : Value} {σ : List SN} {ts : List Value} (h : WM W lo gw lv tv vv σ ts) {x : RE} (he : σ.map (·.1) = redE x) (hl : (redE x).length ≤ 1000000) : ∃ A c, lv = .slice A (redE x).length c ∧ (redE x).length ≤ c ∧ c ≤ maxLen ∧ Tree.Nodes Tree.Any W A (redE x) := by
 have hp := red_pos x
 have hlen : σ.length = (redE x).length := by rw [← he, List.length_map]
 rcases h.nodes.2 with ⟨-, e0⟩ | ⟨g, c, cur, e, -, -, hc, hcm, -⟩
 ·omega
 ·rw [hlen] at e hc
  refine ⟨_, c, e, hc, hcm, fun _ => ⟨g, 0, rfl, fun j nd hnd => ?_⟩⟩
  rw [← he, List.getElem?_map] at hnd
  obtain ⟨s, hs, rfl⟩ : ∃ s, σ[j]? = some s ∧ s.1 = nd := by
   cases hj : σ[j]? with
   | none => rw [hj] at hnd; cases hnd
   | some s => rw [hj] at hnd; injection hnd with hnd; exact ⟨s, rfl, hnd⟩
  have hmem := List.mem_of_getElem? hs
  obtain ⟨s1, s2, s3, s4, s5, s6⟩ := red_small x s.1 (by rw [← he]; exact List.mem_map.2 ⟨s, hmem, rfl⟩)
  have cell : ∀ f, f < 5 → ∀ u, (Tree.cellsS s)[f]? = some u → W.cell? ⟨g, 0 + 5 * j + f, none⟩ = some u := fun f hf u hu => by
   have h1 := World.ownsRow.cells h.nodes (g := g) (by rw [e]; rfl) (5 * j + f) u (by rw [Tree.rowS_at σ j s hs f hf]; exact hu)
   rw [Addr.add_lit, Nat.zero_add] at h1
   rw [Nat.zero_add]
   exact h1
  have hkr := h.kids s hmem
  obtain ⟨A', c', e', hn', hm', -, -⟩ := own_sliceN hkr
  have e' : Value.slice s.2.1 s.1.kids.length s.2.2 = .slice A' s.1.kids.length c' := e'
  injection e' with e1 _ e3
  have hrd : Rd .i64 W s.2.1 s.1.kids.length s.1.kids := Rd.own hkr (fun z hz => by
   have := s6 z hz
   simp [Lit.wf, IntKind.min, IntKind.max, IntKind.signed, IntKind.bits]
   omega)
  refine ⟨cell 0 (by omega) _ rfl, ?_, cell 2 (by omega) _ rfl, cell 3 (by omega) _ rfl, ⟨by omega, by omega⟩, ⟨by omega, by omega⟩, ⟨by omega, by omega⟩, by rw [s3]; decide, s.2.1, s.2.2, cell 4 (by omega) _ rfl, hrd, by rw [e3]; exact hn', by rw [e3]; exact hm', trivial, fun _ _ _ => trivial⟩
  exact cell 1 (by omega) _ rfl
theorem red_le {l : List Tree.Nd} (h : Tree.mayL l = true) : ∀ i, i < l.length → Tree.regKind (kindN l i) = true → (redE (reI l i)).length ≤ i + 1 - Tree.startL l i := by
 intro i
 induction i using Nat.strongRecOn with
 | ind i ih =>
  intro hi hr
  have hs := start_within_self h hi
  rcases kidc_reg hr with ⟨e, hk⟩ | ⟨e, hk⟩ | ⟨e, hk⟩ | ⟨e, hk⟩
  ·rw [reI_step e]; show 1 ≤ _; omega
  ·obtain ⟨_, -, -, h3, h4, -⟩ := node_one h hi hk
   have := start_within_self h (show i - 1 < l.length by omega)
   rw [reI_test e]; show 2 ≤ _; omega
  ·obtain ⟨a1, a2⟩ := kidN_two h hi hk
   obtain ⟨r1, r2⟩ := kid_reg2 h hi e
   obtain ⟨_, t, -, -, h3, h4, h5, h6, h7, h8, -⟩ := node_two h hi hk
   have x1 := ih _ a1 (by omega) r1
   have x2 := ih _ a2 (by omega) r2
   have h9 := start_within_self h (show i - 1 < l.length by omega)
   rw [h6] at x1
   rw [h7, h5] at x2
   rcases e with e | e
   ·rw [reI_alt h hi e]
    show (Tree.overL _ (redE _) (redE _)).length ≤ _
    rw [Paths.over_len, h6, h7]; omega
   ·rw [reI_seq h hi e]
    show (Tree.overL _ (redE _) (redE _)).length ≤ _
    rw [Paths.over_len, h6, h7]; omega
  ·have a1 := kidN_one h hi hk
   obtain ⟨_, -, -, h3, h4, h5, -⟩ := node_one h hi hk
   have x1 := ih _ a1 (by omega) (kid_reg1 h hi (.inl e))
   have h9 := start_within_self h (show i - 1 < l.length by omega)
   rw [h5] at x1
   rw [reI_many h hi e]
   show (Tree.overL _ (redE _) []).length ≤ _
   rw [Paths.over_len, h5]
   simp only [List.length_nil]
   omega
theorem nts_red : ∀ x : RE, nts x ≤ (redE x).length := by
 intro x
 induction x with
 | no => exact Nat.zero_le _
 | step => exact Nat.zero_le _
 | test y => show 1 ≤ 2; omega
 | alt a b iha ihb => show nts a + nts b ≤ (Tree.overL _ (redE a) (redE b)).length; rw [Paths.over_len]; omega
 | seq a b iha ihb => show nts a + nts b ≤ (Tree.overL _ (redE a) (redE b)).length; rw [Paths.over_len]; omega
 | many a iha => show nts a ≤ (Tree.overL _ (redE a) []).length; rw [Paths.over_len]; omega
theorem shift_zero (l : List Tree.Nd) : l.map (Tree.shiftNd ((0 : Nat) : Int)) = l := by
 conv => rhs; rw [← List.map_id l]
 refine List.map_congr_left fun n _ => ?_
 show ({ n with kids := n.kids.map (· + ((0 : Nat) : Int)) } : Tree.Nd) = n
 have : n.kids.map (· + ((0 : Nat) : Int)) = n.kids := by
  conv => rhs; rw [← List.map_id n.kids]
  exact List.map_congr_left fun k _ => by show k + ((0 : Nat) : Int) = k; omega
 rw [this]
structure WK (J : Jd) (r gw B c : Nat) (A : Option Addr) (vs : Nat → List Nat) (W : World) : Prop where
 list : W.cell? ⟨gw, 0, none⟩ = some (.slice A (redE (reI J.l r)).length c)
 cap : (redE (reI J.l r)).length ≤ c ∧ c ≤ maxLen
 nodes : Tree.Nodes Tree.Any W A (redE (reI J.l r))
 vals : W.cell? ⟨gw, 2, none⟩ = some (.slice (some ⟨B, 0, none⟩) J.n J.n)
 rows : ∀ i, i < J.n → ∃ K q d, W.cell? ⟨B, i, none⟩ = some (.slice K q d) ∧ RdW W K q (vs i) ∧ q ≤ d ∧ d ≤ maxLen
 tell : ∀ q y, (tsE (reI J.l r))[q]? = some y → ∀ p, p < J.n → (psV vs p q ↔ sem (tmOf J.t) (foI J.l (kidN J.l y 0)) p p)
theorem WK.below {J : Jd} {r gw B c : Nat} {A : Option Addr} {vs : Nat → List Nat} {W W' : World} (h : WK J r gw B c A vs W) (hb : Below W.heap.size W W') : WK J r gw B c A vs W' :=
 ⟨below_cell hb h.list, h.cap, h.nodes.below hb, below_cell hb h.vals, fun i hi => by
  obtain ⟨K, q, d, h1, h2, h3⟩ := h.rows i hi
  exact ⟨K, q, d, below_cell hb h1, h2.below hb, h3⟩, h.tell⟩
theorem WM.vals {W : World} {lo gw : Nat} {lv tv vv : Value} {σ : List SN} {ts : List Value} (h : WM W lo gw lv tv vv σ ts) (u : Value) : WM (W.setCell ⟨gw, 2, none⟩ u) lo gw lv tv u σ ts := by
 have hg := grown_cell W ⟨gw, 2, none⟩ u
 exact ⟨h.blk.set 2 _ (by simp), h.hg, Nat.le_trans h.hb hg.size, World.ownsRow.kept h.nodes hg (.inr h.lg), World.ownsRow.kept h.tests hg (.inr h.tg), h.lg, h.tg, fun s hs => World.ownsRow.kept (h.kids s hs) hg (.inr (h.kg s hs)), h.kg⟩
theorem grown_low2 {w w1 W : World} {bt B : Nat} (h : w.grownBy w1 (some bt)) (hb : Below B w1 W) (hB : w.heap.size ≤ B) : w.grownBy W (some bt) :=
 ⟨hb.os.trans h.os, hb.tape.trans h.tape, hb.output.trans h.output, Nat.le_trans h.size hb.size, fun x hx hne => (hb.block x (by omega)).trans (h.block x hx hne)⟩
set_option maxHeartbeats 8000000 in
set_option maxRecDepth 100000 in
theorem landWalk (J : Jd) (w0 : World) (σ : List Value) (k m c : Nat) (kd lo' hi' : Int) (nm : ByteArray) (ks : List Int) (K : Option Addr) (w : World) (h : JS J w0 σ w) (hl : Live J k σ w) (hnv : Nv J w0 k ⟨kd, nm, lo', hi', ks⟩ K m c) (hkd : kd = 16 ∨ kd = 17) :
  Calls Tryz.prog 69 #[.pointer (some ⟨J.gj, 0, none⟩), .agg #[.int .i64 kd, .string nm, .int .i64 lo', .int .i64 hi', .slice K m c]] w fun e w' => ∃ (σ' : List Value) (gw B d : Nat) (A : Option Addr) (vs : Nat → List Nat), e = .returned (.pointer (some ⟨gw, 0, none⟩)) ∧ JS J w0 σ' w' ∧ w.grownBy w' (some J.bt) ∧ (∀ x, ¬ took J.l k x → σ'[x]? = σ[x]?) ∧ WK J (kidN J.l k 0) gw B d A vs w' := by
 have hk := (List.getElem?_eq_some_iff.1 hnv.hk).1
 have hkk : kindN J.l k = kd := kind_of hnv.hk
 have hk1 : Tree.kidc (kindN J.l k) = 1 := by rw [hkk]; rcases hkd with e | e <;> rw [e] <;> rfl
 have hm1 : m = 1 := by have := hnv.len; rw [this]; rcases hkd with e | e <;> rw [e] <;> rfl
 have hrr := kid_reg1 h.ml hk (.inr (by rw [hkk]; exact hkd))
 have hrk := kidN_one h.ml hk hk1
 obtain ⟨r, hr⟩ : ∃ r, kidN J.l k 0 = r := ⟨_, rfl⟩
 obtain ⟨kb, ko, hK, xk, -⟩ := hnv.kids 0 (by omega)
 rw [hr] at hrr hrk xk ⊢
 rw [Nat.add_zero] at xk
 have hto : ∀ y, took J.l k y ↔ y ∈ tsE (reI J.l r) := fun y => by
  unfold took
  rw [hr, hkk]
  constructor
  ·rintro (⟨-, e⟩ | ⟨e, -⟩)
   ·exact e
   ·rcases hkd with e2 | e2 <;> rw [e2] at e <;> cases e
  ·exact fun e => .inl ⟨hkd, e⟩
 -- the tests' truth, before
 have hbv : ∃ bv : Nat → Nat, ∀ y ∈ tsE (reI J.l r), σ[y]? = some (tV J.n (bv y)) ∧ bv y ≠ J.bt ∧ bv y < w.heap.size ∧ RB w (bv y) J.n (tvB J y) := by
  have h1 : ∀ y, ∃ b, y ∈ tsE (reI J.l r) → σ[y]? = some (tV J.n b) ∧ b ≠ J.bt ∧ b < w.heap.size ∧ RB w b J.n (tvB J y) := fun y => by
   by_cases hy : y ∈ tsE (reI J.l r)
   ·obtain ⟨b, hb⟩ := live_kid hl h.ml hk ((hto y).2 hy) (.inr (tests_range h.ml (by omega) hrr hy).2.2)
    exact ⟨b, fun _ => hb⟩
   ·exact ⟨0, fun e => absurd e hy⟩
  exact ⟨fun y => Classical.choose (h1 y), fun y hy => Classical.choose_spec (h1 y) hy⟩
 obtain ⟨bv, hbv⟩ := hbv
 obtain ⟨hred, hnts⟩ : (redE (reI J.l r)).length ≤ 1000 ∧ nts (reI J.l r) ≤ 1000 := by
  have h1 := red_le h.ml r (by omega) hrr
  have h2 := nts_red (reI J.l r)
  have h3 := h.hl
  omega
 obtain ⟨i1, hi1, hy0, hy1, hy2⟩ := info_parts infoWs
 have hn64 := h.hn
 have b1 : i1.bytes * J.n ≤ 281474976710656 := by rw [hy2]; omega
 have b3 : J.n ≤ maxLen := by have q63 : maxLen = 9223372036854775807 := rfl; omega
 -- the boxes
 obtain ⟨Wb, hWb⟩ : ∃ W, w.alloc (.cells #[.int .i64 kd, .string nm, .int .i64 lo', .int .i64 hi', .slice K m c] 37) = W := ⟨_, rfl⟩
 obtain ⟨Wc, hWc⟩ : ∃ W, Wb.alloc (.cells #[.slice none 0 0, .slice none 0 0, .slice none 0 0] 105) = W := ⟨_, rfl⟩
 have hbb : Below w.heap.size w Wb := by rw [← hWb]; exact (Below.refl _ _).alloc (Nat.le_refl _) _
 have hsb : Wb.heap.size = w.heap.size + 1 := by rw [← hWb]; simp
 have hbc' : Below Wb.heap.size Wb Wc := by rw [← hWc]; exact (Below.refl _ _).alloc (Nat.le_refl _) _
 have hbc : Below w.heap.size w Wc := hbb.trans (hbc'.mono hbb.size)
 have hsc : Wc.heap.size = w.heap.size + 2 := by rw [← hWc]; simp [hsb]
 have d4 : Wb.cell? ⟨w.heap.size, 4, none⟩ = some (.slice K m c) := by rw [← hWb]; exact box_cell 4 _ rfl
 have d4 := below_cell hbc' d4
 have hW : Blk Wc (w.heap.size + 1) [.slice none 0 0, .slice none 0 0, .slice none 0 0] := by rw [← hWc, ← hsb]; exact Blk.new Wb _ _ _ rfl
 have hm0 : WM Wc (w.heap.size + 1) (w.heap.size + 1) (.slice none 0 0) (.slice none 0 0) (.slice none 0 0) [] [] :=
  ⟨hW, Nat.le_refl _, by omega, World.ownsRow_nil _ _ _ _, World.ownsRow_nil _ _ _ _, fun e => (by cases e), fun e => (by cases e), fun s hs => (by cases hs), fun s hs => (by cases hs)⟩
 have hgj : J.gj < w.heap.size + 1 := Nat.lt_succ_of_lt h.blk.1
 have hbt : J.bt < w.heap.size + 1 := Nat.lt_succ_of_lt h.bt0.2
 have HADD := Lib.hid (landAddN J w0 (w.heap.size + 1) (w.heap.size + 1) bv h.ml hgj hbt r (by omega) hrr Wc σ [] [] _ _ _ (h.later hbc) hm0 (by simp only [List.length_nil]; omega) (by simp only [List.length_nil]; omega) (fun y hy => (hbv y hy).1))
 have yk := below_cell hbc (below_cell h.low xk)
 have HGJ := Lib.hid (And.intro hgj (And.intro hbt (And.intro h.bt0.2 h.blk.1)))
 have HBV := Lib.hid hbv
 have HTO := Lib.hid hto
 have HBC := Lib.hid (And.intro hbc (And.intro hsc hsb))
 have HJ0 := Lib.hid h
 have HRD := Lib.hid (And.intro hred (And.intro hnts (And.intro hrr (show r < J.l.length by omega))))
 subst hK
 subst hm1
 obtain ⟨n, hn⟩ : ∃ n, J.n = n := ⟨_, rfl⟩
 have HN := Lib.hid hn
 rw [hn] at b1 b3 hn64
 clear h hl hnv hk hkk hk1 hrr hrk hr xk hto hbv hkd hm0 hgj hbt hbb hbc hbc' hsc hW hred hnts hn
 go_enter Tryz.func69, Tryz.ntmps69
 go_wp2_with fail
 refine HADD.out.mono ?_
 rintro e w1 ⟨rfl, τ', lv, tv, ρ, j1, m1, r1, z1, f1, -⟩
 rw [List.nil_append, List.nil_append] at m1
 have r1 : ρ.map (·.1) = redE (reI J.l r) := by rw [r1]; exact shift_zero _
 have hg1 : w.grownBy w1 (some J.bt) := ⟨f1.os.trans HBC.out.1.os, f1.tape.trans HBC.out.1.tape, f1.output.trans HBC.out.1.output, Nat.le_trans HBC.out.1.size f1.size, fun x hx hne =>
  (f1.block x (by have := HBC.out.1.size; omega) (fun e => hne (by rw [e])) (by omega) (fun e => by cases e) (fun e => by cases e)).trans (HBC.out.1.block x hx)⟩
 have HM1 := Lib.hid m1
 have HJ1 := Lib.hid j1
 have HG1 := Lib.hid hg1
 have HZ := Lib.hid (And.intro r1 z1)
 have HS1 := Lib.hid (show w.heap.size + 2 ≤ w1.heap.size from by have := f1.size; have := HBC.out.2.1; omega)
 have e1 := j1.blk.cell 1 rfl
 rw [HN.out] at e1
 clear j1 m1 r1 z1 f1 hg1 HADD d4 yk
 go_wp2_with (at_make; refine wpList_make_full _ rfl (.tmp 21) (.tmp 21) 103 rfl (w.heap.size + 1) 107 i1 (.slice none 0 0) 1 Tryz.underlying103 hi1 hy0 hy1 .i64 .i64 _ _ n rfl rfl rfl rfl b1 b3 (Nat.le_trans (Nat.le_succ _) HS1.out) ?_; intro w2 hmade hgr2; rw [made_slices] at hmade; have hb2 : Below w1.heap.size w1 w2 := ⟨hgr2.os, hgr2.tape, hgr2.output, hgr2.size, fun k hk => hgr2.block k hk (by simp)⟩; have g2 := (HM1.out.later hb2).blk.cell 2 rfl; have y2 := (HM1.out.later hb2).blk.fz 2 rfl; have hBlt := (World.ownsRow.lt hmade w1.heap.size rfl).2)
 obtain ⟨W3, hW3⟩ : ∃ W3, w2.setCell ⟨w.heap.size + 1, 2, none⟩ (.slice (some ⟨w1.heap.size, 0, none⟩) n n) = W3 := ⟨_, rfl⟩
 have hM3 := (HM1.out.later hb2).vals (.slice (some ⟨w1.heap.size, 0, none⟩) n n)
 have hlo3 : Below (w.heap.size + 1) w1 W3 := by rw [← hW3]; exact (hb2.mono (Nat.le_trans (Nat.le_succ _) HS1.out)).setCell (p := ⟨w.heap.size + 1, 2, none⟩) (Nat.le_refl _) _
 have hrow3 : W3.ownsRow (w.heap.size + 1) 107 1 (.slice (some ⟨w1.heap.size, 0, none⟩) n n) n (outS n ((nts (reI J.l r) + 63) / 64) 0 (fun _ => 0)) := by
  rw [outS_zero, ← hW3]
  exact World.ownsRow.kept hmade (grown_cell w2 ⟨w.heap.size + 1, 2, none⟩ _) (.inr (fun e => absurd (show w1.heap.size = w.heap.size + 1 by injection e) (by have := HS1.out; omega)))
 have hJ3 := HJ1.out.under hlo3 HGJ.out.1 HGJ.out.2.1
 have hG3 := grown_low2 HG1.out hlo3 (Nat.le_succ _)
 have hls : lv.ownBlock ≠ some w1.heap.size ∧ tv.ownBlock ≠ some w1.heap.size ∧ ∀ s ∈ ρ, kbl s ≠ some w1.heap.size :=
  ⟨fun e => by have := (World.ownsRow.lt HM1.out.nodes _ e).2; omega, fun e => by have := (World.ownsRow.lt HM1.out.tests _ e).2; omega, fun s hs e => by have := ((HM1.out.kids s hs).lt e).2; omega⟩
 rw [hW3] at hM3 ⊢
 have HM3 := Lib.hid hM3
 have HJ3 := Lib.hid hJ3
 have HG3 := Lib.hid hG3
 have HR3 := Lib.hid hrow3
 have HLS := Lib.hid hls
 obtain ⟨B, hB⟩ : ∃ B, w1.heap.size = B := ⟨_, rfl⟩
 have HSB := Lib.hid (show w.heap.size + 2 ≤ B from by rw [← hB]; exact HS1.out)
 rw [hB] at HM3 HR3 HLS ⊢
 obtain ⟨Kw, hKw⟩ : ∃ K, (nts (reI J.l r) + 63) / 64 = K := ⟨_, rfl⟩
 rw [hKw] at HR3
 have HKW := Lib.hid hKw
 clear hmade hgr2 hb2 g2 y2 hBlt hW3 hM3 hlo3 hrow3 hJ3 hG3 hls HM1 HJ1 HG1 HS1 e1 hB hKw
 go_loopw [6, 30] (fun _ v wr => ∃ (i : Nat) (R : Nat → Nat) (vs : Nat → List Nat), v = .int .i64 (i : Nat) ∧ i ≤ n ∧ JS J w0 τ' wr ∧ WM wr (w.heap.size + 1) (w.heap.size + 1) lv tv (.slice (some ⟨B, 0, none⟩) n n) ρ ((tsE (reI J.l r)).map fun y => tV J.n (bv y)) ∧ wr.ownsRow (w.heap.size + 1) 107 1 (.slice (some ⟨B, 0, none⟩) n n) n (outS n Kw i R) ∧
  Hid (∀ j, j < i → R j ≠ B ∧ RdW wr (some ⟨R j, 0, none⟩) Kw (vs j) ∧ ∀ q, has (vs j) q = (decide (q < nts (reI J.l r)) && tvB J ((tsE (reI J.l r))[q]?.getD 0) j)) ∧ w.grownBy wr (some J.bt)) (fun _ v _ => n - (intOf v).toNat)
 case atStart => exact ⟨0, fun _ => 0, fun _ => [], rfl, Nat.zero_le _, HJ3.out, HM3.out, HR3.out, Lib.hid (fun j hj => absurd hj (Nat.not_lt_zero _)), HG3.out⟩
 case round =>
  obtain ⟨i, R, vs, rfl, hin, hj, hm, hrow, hvs, hg⟩ := hrel
  have HJ := Lib.hid hj
  have HM := Lib.hid hm
  have HO := Lib.hid hrow
  have HG := Lib.hid hg
  by_cases hlt : i < n
  ·have c2 := hm.blk.cell 2 rfl
   have hmt : (tsE (reI J.l r)).map (fun y => tV J.n (bv y)) = ((tsE (reI J.l r)).map bv).map (fun b => tV J.n b) := by rw [List.map_map]; rfl
   have hm' := hm
   rw [hmt] at hm'
   have HD := Lib.hid (landHold _ _ J.n i _ _ _ _ ((tsE (reI J.l r)).map bv) (fun q p => tvB J ((tsE (reI J.l r))[q]?.getD 0) p) wr.drew (hm'.later (Below.refl _ _).drew) (fun q b hb => by
    rw [List.getElem?_map] at hb
    cases hy : (tsE (reI J.l r))[q]? with
    | none => rw [hy] at hb; cases hb
    | some y =>
     rw [hy] at hb
     injection hb with hb
     obtain ⟨-, h2, -, h4⟩ := HBV.out y (List.mem_of_getElem? hy)
     rw [← hb]
     exact (h4.grown hg h2).below (Below.refl _ _).drew) (by rw [HN.out]; exact hlt) (by rw [HN.out]; omega) (by rw [List.length_map, tsE_len]; exact HRD.out.2.1) Kw (by rw [List.length_map, tsE_len]; exact HKW.out))
   have hBr := (World.ownsRow.lt hrow B rfl).2
   clear hj hm hrow hg hmt hm'
   go_wp2_with fail
   refine Late.drew [9] (S := fun V => V.cell? ⟨w.heap.size + 1, 2, none⟩ = some (.slice (some ⟨B, 0, none⟩) n n)) (by kernel_rfl) c2 (fun hHeld => ?_)
   refine ltOp 0 hHeld ?_
   refine ltOp 1 hHeld ?_
   refine ltOp 2 hHeld ?_
   refine ltOp 3 hHeld ?_
   refine ltOp 4 hHeld ?_
   refine ltOp 5 hHeld ?_
   refine ltOp 6 hHeld ?_
   refine ltCall 7 (fun Kt hKt => ?_)
   go_simp
   (go_at_call 83; refine HD.out.mono ?_; rintro e w4 ⟨q4, zs, rfl, hr4, hz4, hh4, hb4⟩)
   refine hKt.out _ _ ?_ (fun hT => ?_)
   ·(exact below_cell hb4 c2)
   clear hKt Kt hHeld
   have hHeld := hT
   clear hT
   try simp only [Act.put, tkA, tkB, tkC]
   have hb5 : Below wr.heap.size wr w4 := (Below.refl _ wr).drew.trans hb4
   have hO5 := below_row HO.out hb5
   have c0 := World.ownsRow.cells hO5 (g := B) rfl i _ (outS_at hlt)
   rw [if_neg (Nat.lt_irrefl i), Addr.add_lit, Nat.zero_add] at c0
   have f0 := own_fz hO5 i
   refine ltOp 8 hHeld ?_
   refine ltLast 9 (fun Kt hKt => ?_)
   go_simp
   refine hKt.out _ _ trivial (fun hT => ?_)
   clear hKt Kt hHeld
   have hHeld := hT
   clear hT
   try simp only [Act.put, tkA, tkB, tkC]
   refine wpAnyH_done (by kernel_rfl) ?_ _
   obtain ⟨W6, hW6⟩ : ∃ W6, w4.setCell ⟨B, i, none⟩ (.slice (some ⟨q4, 0, none⟩) Kw Kw) = W6 := ⟨_, rfl⟩
   have hg6 : w4.grownBy W6 (some B) := by rw [← hW6]; exact grown_cell w4 ⟨B, i, none⟩ _
   have hlo6 : Below (w.heap.size + 1) wr W6 := (hb5.mono HM.out.hb).trans (below_of_grown hg6 (by have := HSB.out; omega) (Nat.le_trans HM.out.hb hb5.size))
   have hr9 : wr.heap.size ≤ q4 := (World.ownsRow.lt hr4 q4 rfl).1
   have HX := Lib.hid (show JS J w0 τ' W6 ∧ WM W6 (w.heap.size + 1) (w.heap.size + 1) lv tv (.slice (some ⟨B, 0, none⟩) n n) ρ ((tsE (reI J.l r)).map fun y => tV J.n (bv y)) ∧ W6.ownsRow (w.heap.size + 1) 107 1 (.slice (some ⟨B, 0, none⟩) n n) n (outS n Kw (i + 1) (fun a => if a = i then q4 else R a)) ∧
     (∀ j, j < i + 1 → (if j = i then q4 else R j) ≠ B ∧ RdW W6 (some ⟨if j = i then q4 else R j, 0, none⟩) Kw (if j = i then zs else vs j) ∧ ∀ q, has (if j = i then zs else vs j) q = (decide (q < nts (reI J.l r)) && tvB J ((tsE (reI J.l r))[q]?.getD 0) j)) ∧ w.grownBy W6 (some J.bt) from by
    refine ⟨HJ.out.under hlo6 HGJ.out.1 HGJ.out.2.1, (HM.out.later hb5).off hg6 (by have := HSB.out; omega) HLS.out.1 HLS.out.2.1 HLS.out.2.2, ?_, fun j hj => ?_, grown_low2 HG.out hlo6 (Nat.le_succ _)⟩
    ·have h1 := own_put (k := i) hO5 (.slice (some ⟨q4, 0, none⟩) Kw Kw)
     rw [outS_set hlt, hW6] at h1
     exact h1
    ·by_cases e : j = i
     ·subst e
      rw [if_pos rfl, if_pos rfl]
      refine ⟨by omega, ?_, fun q => ?_⟩
      ·exact Rd.grown (hr4.reads hz4) hg6 (fun a ha e => by injection ha with ha; rw [← ha] at e; exact absurd (show q4 = B by injection e) (by omega))
      ·rw [hh4, List.length_map, tsE_len]
     ·rw [if_neg e, if_neg e]
      obtain ⟨h1, h2, h3⟩ := hvs.out j (by omega)
      exact ⟨h1, Rd.grown (RdW.below h2 hb5) hg6 (fun a ha e => by injection ha with ha; rw [← ha] at e; exact absurd (show R j = B by injection e) h1), h3⟩)
   rw [hW6]
   clear hHeld c0 f0 hO5 hb5 hW6 hg6 hlo6 hr9 hr4 hz4 hh4 hb4 c2 hBr HD
   go_wp2_with fail
   go_roundw
   case rel => exact ⟨i + 1, _, _, by simp, by omega, HX.out.1, HX.out.2.1, HX.out.2.2.1, Lib.hid HX.out.2.2.2.1, HX.out.2.2.2.2⟩
   case measure => (show n - (i + 1) < n - i; omega)
  ·obtain rfl : i = n := by omega
   clear hj hm hrow hg
   go_wp2_with fail
   go_ret
   obtain ⟨A, d, e1, e2, e3, e4⟩ := HM.out.reads HZ.out.1 (by have := HRD.out.1; omega)
   refine ⟨τ', w.heap.size + 1, B, d, A, vs, rfl, HJ.out, HG.out, fun x hx => HZ.out.2 x (fun e => hx ((HTO.out x).2 e)), ?_, ⟨e2, e3⟩, e4, ?_, fun j hj => ?_, fun q y hy p hp => ?_⟩
   ·rw [← e1]; exact HM.out.blk.cell 0 rfl
   ·rw [HN.out]; exact HM.out.blk.cell 2 rfl
   ·rw [HN.out] at hj
    obtain ⟨h1, h2, h3⟩ := hvs.out j hj
    have c0 := World.ownsRow.cells HO.out (g := B) rfl j _ (outS_at hj)
    rw [if_pos hj, Addr.add_lit, Nat.zero_add] at c0
    exact ⟨_, _, _, c0, h2, Nat.le_refl _, by have := HKW.out; have := HRD.out.2.1; have q63 : maxLen = 9223372036854775807 := rfl; omega⟩
   ·rw [HN.out] at hp
    obtain ⟨h1, h2, h3⟩ := hvs.out p hp
    have hq : q < nts (reI J.l r) := by rw [← tsE_len]; exact (List.getElem?_eq_some_iff.1 hy).1
    have hyr := tests_range HJ.out.ml HRD.out.2.2.2 HRD.out.2.2.1 (List.mem_of_getElem? hy)
    have hyl : y < J.l.length := by have := HRD.out.2.2.2; omega
    have hfo := foI_one HJ.out.ml hyl (by rw [hyr.2.2]; rfl)
    rw [hyr.2.2] at hfo
    unfold psV hasI
    rw [decide_eq_true (by omega), Bool.true_and, Int.toNat_natCast, h3, decide_eq_true hq, Bool.true_and, hy]
    show tvB J y p = true ↔ _
    rw [tv_test HJ.out.jw.tn (by rw [HN.out]; exact hp) hfo, tv_iff]
end Go.Proofs.YtdbgaccnejffpaaGreatDoor.Sat

namespace Go.Proofs.YtdbgaccnejffpaaGreatDoor.Sat
open Go.RowKit Go.Proofs.YtdbgaccnejffpaaGreatDoor.Ints Go.Proofs.YtdbgaccnejffpaaGreatDoor.Mem Go.Proofs.YtdbgaccnejffpaaGreatDoor.Src Go.Proofs.YtdbgaccnejffpaaGreatDoor.Paths Go.Proofs.YtdbgaccnejffpaaGreatDoor.Late Go.Proofs.YtdbgaccnejffpaaGreatDoor.Trace Go.Proofs.YtdbgaccnejffpaaGreatDoor.RdW Go.Proofs.YtdbgaccnejffpaaGreatDoor.Words Go.Proofs.YtdbgaccnejffpaaGreatDoor.BitsWalks
theorem part_tells {J : Jd} (hml : Tree.mayL J.l = true) (hn : (tmOf J.t).n = J.n) {r a nv : Nat} {vs : Nat → List Nat} (hr : r < J.l.length) (hreg : Tree.regKind (kindN J.l r) = true) (ht : ∀ q y, (tsE (reI J.l r))[q]? = some y → ∀ p, p < J.n → (psV vs p q ↔ sem (tmOf J.t) (foI J.l (kidN J.l y 0)) p p)) (ha : nv + a ≤ J.n) {i j : Nat} (hi : i < nv) (hj : j < nv) :
  tableR (redE (reI J.l r)) (fun p => vs (p + a)) nv i j = true ↔ sem (tmOf J.t) (foI J.l r) (i + a) (j + a) := by
 obtain ⟨r1, r2⟩ := red_ok (reI J.l r) (reI_noNo hml r hr hreg)
 rw [table_tree r1 _ nv hi hj]
 show wayR _ _ (reOf (redE (reI J.l r))) 0 i j ↔ _
 rw [← wayR_bare, r2, wayR_bare]
 rw [wayR_cut (ps := psV vs) (ps' := psV fun p => vs (p + a)) (n := J.n) (m := nv) (a := a) ha (fun p q _ => Iff.rfl) (reI J.l r) 0 i j hi hj, ← hn]
 exact way_sem hml (tmOf J.t) (psV vs) r hr hreg 0 (fun q y hy p hp => by rw [Nat.zero_add]; exact ht q y hy p (by rw [← hn]; exact hp)) _ _
set_option maxHeartbeats 8000000 in
set_option maxRecDepth 100000 in
theorem landReachP (J : Jd) (r gw B c : Nat) (A : Option Addr) (vs : Nat → List Nat) (a b nv : Nat) (w : World) (h : WK J r gw B c A vs w) (hml : Tree.mayL J.l = true) (hn : (tmOf J.t).n = J.n) (hn64 : J.n ≤ 64) (hr : r < J.l.length) (hreg : Tree.regKind (kindN J.l r) = true) (hl : (redE (reI J.l r)).length ≤ 1000) (hab : a + nv = b) (hb : b ≤ J.n) :
  Calls Tryz.prog 70 #[.pointer (some ⟨gw, 0, none⟩), .int .i64 ((a : Nat) : Int), .int .i64 ((b : Nat) : Int)] w fun e w' => ∃ (Bt : Nat) (R : Nat → Nat) (m : Tb), e = .returned (.slice (some ⟨Bt, 0, none⟩) nv nv) ∧ Tab w' w.heap.size Bt R nv m ∧ Below w.heap.size w w' ∧ ∀ i j, i < nv → j < nv → (m i j = true ↔ sem (tmOf J.t) (foI J.l r) (i + a) (j + a)) := by
 obtain ⟨r1, -⟩ := red_ok (reI J.l r) (reI_noNo hml r hr hreg)
 obtain ⟨V, hV⟩ : ∃ V, Mem.fromAddr (some ⟨B, 0, none⟩) J.n a 1 = V := ⟨_, rfl⟩
 have hsl := fun W => slice_midB (P := Tryz.prog) 103 (by kernel_rfl) 1 (by kernel_rfl) (some ⟨B, 0, none⟩) J.n J.n a b (by omega) hb W
 rw [hV, show b - a = nv by omega] at hsl
 have hrv : RdV w V nv (fun p => vs (p + a)) := fun h0 => by
  refine ⟨B, a, ?_, fun i hi => ?_⟩
  ·rw [← hV]
   unfold Mem.fromAddr
   rw [if_neg (by omega)]
   show some ((⟨B, 0, none⟩ : Addr).add (a * 1)) = _
   rw [Addr.add_lit, Nat.zero_add, Nat.mul_one]
  ·rw [Nat.add_comm a i]
   exact h.rows (i + a) (by omega)
 have HR := landReach A V (redE (reI J.l r)).length c nv (J.n - a) (redE (reI J.l r)) (fun p => vs (p + a)) w.drew rfl h.cap.1 (by omega) (h.nodes.below (Below.refl _ _).drew) (fun h0 => by
  obtain ⟨b', off, e, hc⟩ := hrv h0
  exact ⟨b', off, e, fun i hi => by obtain ⟨K, q, c, g1, g2, g3⟩ := hc i hi; exact ⟨K, q, c, g1, g2.below (Below.refl _ _).drew, g3⟩⟩) (by omega)
 rw [gotR_yes r1] at HR
 have HT := Lib.hid (fun i j (hi : i < nv) (hj : j < nv) => part_tells hml hn hr hreg h.tell (show nv + a ≤ J.n by omega) hi hj)
 obtain ⟨m, hm⟩ : ∃ m, tableR (redE (reI J.l r)) (fun p => vs (p + a)) nv = m := ⟨_, rfl⟩
 rw [hm] at HR HT
 have HR := Lib.hid HR
 have c0 := h.list
 have c2 := h.vals
 obtain ⟨L, hL⟩ : ∃ L, (redE (reI J.l r)).length = L := ⟨_, rfl⟩
 obtain ⟨n, hnn⟩ : ∃ n, J.n = n := ⟨_, rfl⟩
 rw [hL] at c0 HR
 rw [hnn] at c2 hsl HR
 clear h hml hn hn64 hr hreg hl hab hb r1 hV hrv hm hL hnn
 go_enter Tryz.func70, Tryz.ntmps70
 go_wp2_with fail
 refine wp_region_held_drew (S := fun V => V.cell? ⟨gw, 0, none⟩ = some (.slice A L c) ∧ V.cell? ⟨gw, 2, none⟩ = some (.slice (some ⟨B, 0, none⟩) n n)) (by kernel_rfl) ⟨c0, c2⟩ (fun hHeld => ?_)
 refine tkOp 0 hHeld ?_
 refine tkOp 1 hHeld ?_
 refine tkOp 2 hHeld ?_
 refine tkOp 3 hHeld ?_
 refine tkOp 4 hHeld ?_
 refine tkOp 5 hHeld ?_
 refine tkOp 6 hHeld ?_
 refine tkOp 7 hHeld ?_
 refine tkOp 8 hHeld ?_
 refine tkOp 9 hHeld ?_
 refine tkOp 10 hHeld ?_
 refine tkCall 11 (fun Kt hKt => ?_)
 go_simp
 (go_at_call 84; refine HR.out.mono ?_; rintro e w1 ⟨Bt, R, rfl, t1, b1⟩)
 refine hKt.out _ _ ?_ (fun hT => ?_)
 ·(exact ⟨below_cell b1 c0, below_cell b1 c2⟩)
 clear hKt Kt hHeld
 have hHeld := hT
 clear hT
 try simp only [Act.put, tkA, tkB, tkC]
 refine tkOp 12 hHeld ?_
 refine wpAnyH_done (by kernel_rfl) ?_ _
 have HX := Lib.hid (And.intro t1 b1)
 clear hHeld t1 b1
 go_wp2_with fail
 go_ret
 exact ⟨Bt, R, m, rfl, HX.out.1, (Below.refl _ _).drew.trans HX.out.2, HT.out⟩
end Go.Proofs.YtdbgaccnejffpaaGreatDoor.Sat
