/-
  The walks of the reference's rank, bare and word. By an AI agent.
  A block of memory, cell by cell; rows cut short. By an AI agent.
  The walks of the landed rank, least, enclosed and levels. By an AI agent.
-/
import Derived.Test.YtmjfopggehopjaaDoorGShowTells9
import Derived.Test.YtmjfopggehopjaaDoorGShowTells10
import Derived.BigQuiet
import Derived.Deep.QuietTactic
namespace Go.Proofs.YtmjfopggehopjaaDoor.Show
open Go.RowKit Go.Proofs.YtmjfopggehopjaaDoor.Tree Go.Proofs.YtmjfopggehopjaaDoor.Itoa Go.Proofs.YtmjfopggehopjaaDoor.Ints

theorem rank_ways (k : Int) : (k = 7 ∨ k = 20 ∨ k = 6 ∨ k = 21 ∨ k = 5 ∨ k = 22 ∨ k = 14 ∨ k = 15 ∨ k = 18 ∨ k = 19 ∨ k = 4 ∨ k = 8 ∨ k = 9 ∨ k = 10 ∨ k = 11 ∨ k = 12 ∨ k = 13) ∨
    ((k == 7) = false ∧ (k == 20) = false ∧ (k == 6) = false ∧ (k == 21) = false ∧ (k == 5) = false ∧ (k == 22) = false ∧ (k == 14) = false ∧ (k == 15) = false ∧ (k == 18) = false ∧ (k == 19) = false ∧ (k == 4) = false ∧ (k == 8) = false ∧ (k == 9) = false ∧ (k == 10) = false ∧ (k == 11) = false ∧ (k == 12) = false ∧ (k == 13) = false ∧ rank k = 6) := by
  by_cases h : k = 7 ∨ k = 20 ∨ k = 6 ∨ k = 21 ∨ k = 5 ∨ k = 22 ∨ k = 14 ∨ k = 15 ∨ k = 18 ∨ k = 19 ∨ k = 4 ∨ k = 8 ∨ k = 9 ∨ k = 10 ∨ k = 11 ∨ k = 12 ∨ k = 13
  · exact Or.inl h
  · right
    have e : ∀ c : Int, k ≠ c → (k == c) = false := fun c h => beq_eq_false_iff_ne.2 h
    refine ⟨e _ (by omega), e _ (by omega), e _ (by omega), e _ (by omega), e _ (by omega), e _ (by omega), e _ (by omega), e _ (by omega), e _ (by omega), e _ (by omega), e _ (by omega), e _ (by omega), e _ (by omega), e _ (by omega), e _ (by omega), e _ (by omega), e _ (by omega), ?_⟩
    unfold rank
    rw [if_neg (by omega), if_neg (by omega), if_neg (by omega), if_neg (by omega), if_neg (by omega)]
theorem rank_range (k : Int) : 1 ≤ rank k ∧ rank k ≤ 6 := by
  unfold rank
  repeat' split
  all_goals omega
end Go.Proofs.YtmjfopggehopjaaDoor.Show

namespace Go.Proofs.YtmjfopggehopjaaDoor.Parse
open Go.RowKit Go.Proofs.YtmjfopggehopjaaDoor.Ints Go.Proofs.YtmjfopggehopjaaDoor.Tree

/-! ### a block -/
/-- The block g begins with the cells vs. -/
def Blk (w : World) (g : Nat) (vs : List Value) : Prop := g < w.heap.size ∧ ∀ (k : Nat) (v : Value), vs[k]? = some v → w.cell? ⟨g, k, none⟩ = some v ∧ w.frozen? ⟨g, k, none⟩ = false
theorem Blk.cell {w : World} {g : Nat} {vs : List Value} (h : Blk w g vs) (k : Nat) {v : Value} (hv : vs[k]? = some v) : w.cell? ⟨g, k, none⟩ = some v := (h.2 k v hv).1
theorem Blk.fz {w : World} {g : Nat} {vs : List Value} (h : Blk w g vs) (k : Nat) {v : Value} (hv : vs[k]? = some v) : w.frozen? ⟨g, k, none⟩ = false := (h.2 k v hv).2
theorem Blk.same {w w' : World} {g : Nat} {vs : List Value} (h : Blk w g vs) (hs : w.heap.size ≤ w'.heap.size) (hb : w'.heap[g]? = w.heap[g]?) : Blk w' g vs :=
  ⟨Nat.lt_of_lt_of_le h.1 hs, fun k _ hv => ⟨(World.cell?_of_block (w := w) (a := ⟨g, k, none⟩) hb).trans (h.cell k hv), (World.frozen?_of_block (w := w) (a := ⟨g, k, none⟩) hb).trans (h.fz k hv)⟩⟩
theorem Blk.below {B : Nat} {w w' : World} {g : Nat} {vs : List Value} (h : Blk w g vs) (hb : Below B w w') (hg : g < B) : Blk w' g vs := h.same hb.size (hb.block g hg)
theorem Blk.later {w w' : World} {g : Nat} {vs : List Value} (h : Blk w g vs) (hb : Below w.heap.size w w') : Blk w' g vs := h.below hb h.1
theorem Blk.alloc {w : World} {g : Nat} {vs : List Value} (h : Blk w g vs) (o : Obj) : Blk (w.alloc o) g vs := h.later ((Below.refl _ _).alloc (Nat.le_refl _) _)
theorem Blk.grown {w w' : World} {g : Nat} {vs : List Value} {row : Option Nat} (h : Blk w g vs) (hg : w.grownBy w' row) (hne : some g ≠ row) : Blk w' g vs := h.same hg.size (hg.block g h.1 hne)
theorem Blk.set {w : World} {g : Nat} {vs : List Value} (h : Blk w g vs) (k : Nat) (u : Value) (hk : k < vs.length) : Blk (w.setCell ⟨g, k, none⟩ u) g (vs.set k u) := by
  refine ⟨by simpa using h.1, fun j v hv => ⟨?_, ?_⟩⟩
  · rw [List.getElem?_set] at hv
    by_cases e : k = j
    · subst e
      rw [if_pos rfl, if_pos hk] at hv
      cases hv
      exact World.cell?_setCell_same _ _ _ (h.cell k (List.getElem?_eq_getElem hk))
    · rw [if_neg e] at hv
      exact (World.cell?_setCell_other _ _ _ _ (fun e' => e (by injection e'))).trans (h.cell j hv)
  · rw [World.frozen?_setCell]
    rw [List.getElem?_set] at hv
    by_cases e : k = j
    · subst e
      exact h.fz k (List.getElem?_eq_getElem hk)
    · rw [if_neg e] at hv
      exact h.fz j hv
theorem Blk.other {w : World} {g : Nat} {vs : List Value} (h : Blk w g vs) (p : Addr) (u : Value) (hp : g ≠ p.block) : Blk (w.setCell p u) g vs := h.same (by simp) (Below.heap_setCell w p u g hp)
theorem Blk.drew {w : World} {g : Nat} {vs : List Value} (h : Blk w g vs) : Blk w.drew g vs := h
theorem Blk.drewN {w : World} {g : Nat} {vs : List Value} (h : Blk w g vs) (n : Nat) : Blk (w.drewN n) g vs := h
theorem Blk.new (w : World) (cs : Array Value) (T : TypeId) (vs : List Value) (hv : cs.toList = vs) : Blk (w.alloc (.cells cs T)) w.heap.size vs := by
  subst hv
  refine ⟨by simp, fun k v hk => ⟨?_, ?_⟩⟩
  · rw [cell_of_row _ w.heap.size k _ T (0, 0) (heap_alloc_new w _)]
    simpa using hk
  · exact World.frozen?_alloc_new _ _ _ _

theorem own_take {w : World} {base : Nat} {e : TypeId} {size : Nat} {A : Option Addr} {n c k : Nat} {xs ys : List Value} (h : w.ownsRow base e size (.slice A n c) n xs) (hk : k ≤ n) (hy : ys = xs.take (k * size)) : w.ownsRow base e size (.slice A k c) k ys := by
  subst hy
  obtain ⟨h1, h2⟩ := h
  have hle : k * size ≤ n * size := Nat.mul_le_mul_right _ hk
  refine ⟨by rw [List.length_take, h1]; omega, ?_⟩
  rcases h2 with ⟨h3, h4⟩ | ⟨g, cap, cur, h3, h4, h5, h6, h7, h8, h9⟩
  · have h3 : (A = none ∧ n = 0 ∧ c = 0) := by injection h3 with a b d; exact ⟨a, b, d⟩
    obtain ⟨rfl, rfl, rfl⟩ := h3
    have : k = 0 := by omega
    subst this
    exact Or.inl ⟨rfl, rfl⟩
  · injection h3 with a b d
    subst a; subst d
    refine Or.inr ⟨g, c, cur, rfl, h4, h5, by omega, h7, h8, ?_⟩
    rw [← h9, List.take_take, Nat.min_eq_left hle]
theorem own_form8 {w : World} {base : Nat} {e : TypeId} {size : Nat} {v : Value} {n : Nat} {xs : List Value} (h : w.ownsRow base e size v n xs) (hn : 0 < n) : ∃ g cap, v = .slice (some ⟨g, 0, none⟩) n cap ∧ base ≤ g ∧ g < w.heap.size ∧ n ≤ cap ∧ cap ≤ maxLen := by
  have hlt := h.lt
  rcases h.2 with ⟨_, h2⟩ | ⟨g, cap, cur, rfl, _, _, h3, h4, _⟩
  · omega
  · exact ⟨g, cap, rfl, (hlt g rfl).1, (hlt g rfl).2, h3, h4⟩
theorem own_same (A : Option Addr) (k n c : Nat) : (Value.slice A k c).ownBlock = (Value.slice A n c).ownBlock := by cases A <;> rfl

end Go.Proofs.YtmjfopggehopjaaDoor.Parse

namespace Go.Proofs.YtmjfopggehopjaaDoor.Show
open Go.RowKit Go.Proofs.YtmjfopggehopjaaDoor.Tree Go.Proofs.YtmjfopggehopjaaDoor.Ints
open Go.Proofs.YtmjfopggehopjaaDoor.Parse (Blk Blk.new)

/-- A rank below that wants brackets. -/
def leastS (k : Int) (j : Nat) : Int := if k = 16 ∨ k = 17 then 0 else if k = 19 then 5 else rank k + (j : Int)
theorem enc_bare (k : Int) (j : Nat) (c : Int) (hk : 1 ≤ k ∧ k ≤ 22) (h : (kidc k = 1 ∧ j = 0) ∨ (kidc k = 2 ∧ j ≤ 1)) : decide (rank c < leastS k j) = !bare k j c := by
  have hr := rank_range c
  obtain ⟨r, hr0⟩ : ∃ r, rank c = r := ⟨_, rfl⟩
  rw [hr0] at hr
  have hw : k = 1 ∨ k = 2 ∨ k = 3 ∨ k = 4 ∨ k = 5 ∨ k = 6 ∨ k = 7 ∨ k = 8 ∨ k = 9 ∨ k = 10 ∨ k = 11 ∨ k = 12 ∨ k = 13 ∨ k = 14 ∨ k = 15 ∨ k = 16 ∨ k = 17 ∨ k = 18 ∨ k = 19 ∨ k = 20 ∨ k = 21 ∨ k = 22 := by omega
  unfold bare leastS
  rw [hr0, Bool.eq_iff_iff]
  rcases hw with rfl | rfl | rfl | rfl | rfl | rfl | rfl | rfl | rfl | rfl | rfl | rfl | rfl | rfl | rfl | rfl | rfl | rfl | rfl | rfl | rfl | rfl
  all_goals rcases h with ⟨h, hj⟩ | ⟨h, hj⟩
  all_goals first
    | (exfalso; revert h; decide)
    | (subst hj; simp [arity, none0, twos]; done)
    | (subst hj; simp [arity, none0, twos]; omega)
    | (simp [arity, rank, none0, twos]; omega)
    | (subst hj; simp [arity, rank, none0, twos]; omega)
set_option maxHeartbeats 4000000 in
theorem landRank (k : Int) (w : World) : Calls Tryd.prog 48 #[.int .i64 k] w fun e w' => e = .returned (.int .i64 (rank k)) ∧ w = w' := by
  rcases rank_ways k with h | ⟨a1, a2, a3, a4, a5, a6, a7, a8, a9, a10, a11, a12, a13, a14, a15, a16, a17, hr⟩
  · rcases h with rfl | rfl | rfl | rfl | rfl | rfl | rfl | rfl | rfl | rfl | rfl | rfl | rfl | rfl | rfl | rfl | rfl
    all_goals
      go_enter Tryd.func48, Tryd.ntmps48
      go_wp2
      go_ret
      exact ⟨rfl, rfl⟩
  · rw [hr]
    clear hr
    go_enter Tryd.func48, Tryd.ntmps48
    go_wp2
    go_ret
    exact ⟨rfl, rfl⟩
set_option maxHeartbeats 4000000 in
theorem landLeast (k : Int) (j : Nat) (w : World) (hj : j ≤ 1000) : Calls Tryd.prog 49 #[.int .i64 k, .int .i64 (j : Int)] w fun e w' => e = .returned (.int .i64 (leastS k j)) ∧ w = w' := by
  have hj' : (j : Int) ≤ 1000 := by omega
  have HK := Lib.hid (fun W => landRank k W)
  have H4 := Lib.hid (fun W => landRank 4 W)
  have hr := rank_range k
  unfold leastS
  by_cases h16 : k = 16 ∨ k = 17
  · rw [if_pos h16]
    rcases h16 with rfl | rfl
    all_goals
      go_enter Tryd.func49, Tryd.ntmps49
      go_wp2
      go_ret
      exact ⟨rfl, rfl⟩
  · rw [if_neg h16]
    have k16 : (k == 16) = false := beq_eq_false_iff_ne.2 (by omega)
    have k17 : (k == 17) = false := beq_eq_false_iff_ne.2 (by omega)
    by_cases h19 : k = 19
    · rw [if_pos h19]
      subst h19
      clear h16 k16 k17
      go_enter Tryd.func49, Tryd.ntmps49
      go_wp2_with (go_at_call 48; refine (H4.out _).mono ?_; rintro e w' ⟨rfl, rfl⟩)
      go_ret
      exact ⟨rfl, rfl⟩
    · rw [if_neg h19]
      have k19 : (k == 19) = false := beq_eq_false_iff_ne.2 h19
      obtain ⟨x, hx⟩ : ∃ x, rank k = x := ⟨_, rfl⟩
      rw [hx] at HK hr ⊢
      clear h16 h19 hx
      go_enter Tryd.func49, Tryd.ntmps49
      go_wp2_with (go_at_call 48; refine (HK.out _).mono ?_; rintro e w' ⟨rfl, rfl⟩)
      go_ret
      exact ⟨by first | rfl | (congr 2; omega), rfl⟩
theorem bel_drew1 (w : World) (n B : Nat) : Below B w (w.drewN n) := ⟨rfl, rfl, rfl, Nat.le_refl _, fun _ _ => rfl⟩
set_option maxHeartbeats 8000000 in
set_option maxRecDepth 100000 in
theorem landEnclosed (A : Option Addr) (n c : Nat) (l : List Nd) (nd : Nd) (K : Option Addr) (m cK j t : Nat) (nt : Nd) (w : World) (hl : l.length = n) (hn : n ≤ 1048576) (h : Nodes Any w A l)
    (hm : nd.kids.length = m) (hK : Rd .i64 w K m nd.kids) (hj : j < m) (hj2 : m ≤ 2) (ht : nd.kids[j]?.getD 0 = (t : Int)) (hnt : l[t]? = some nt) :
    Calls Tryd.prog 29 #[.slice A n c, .agg #[.int .i64 nd.kind, .string nd.name, .int .i64 nd.lo, .int .i64 nd.hi, .slice K m cK], .int .i64 (j : Int)] w fun e w' => e = .returned (.bool (decide (rank nt.kind < leastS nd.kind j))) ∧ Below w.heap.size w w' := by
  have HR := Lib.hid (fun W => landRank nt.kind W)
  have HS := Lib.hid (fun W => landLeast nd.kind j W (by omega))
  have htl : t < n := by rw [← hl]; exact (List.getElem?_eq_some_iff.1 hnt).1
  obtain ⟨b, off, rfl, hnodes⟩ := h (by omega)
  have y0 := (hnodes t nt hnt).1
  rw [Nat.mul_comm 5 t] at y0
  obtain ⟨bk, ok, rfl, hkc⟩ := hK.cell (by omega)
  have ck := hkc j hj
  rw [ht] at ck
  obtain ⟨kd, nm, lo, hi, ks⟩ := nd
  obtain ⟨x, hx⟩ : ∃ x, rank nt.kind = x := ⟨_, rfl⟩
  have hk0 : (⟨kd, nm, lo, hi, ks⟩ : Nd).kind = kd := rfl
  rw [hk0] at HS ⊢
  obtain ⟨y, hy⟩ : ∃ y, leastS kd j = y := ⟨_, rfl⟩
  rw [hx] at HR ⊢
  rw [hy] at HS ⊢
  have htn : (t : Int) < (n : Int) := by omega
  have ht0 : (0 : Int) ≤ (t : Int) := by omega
  have hjm : (j : Int) < (m : Int) := by omega
  have hj0 : (0 : Int) ≤ (j : Int) := by omega
  have HB := Lib.hid ((Below.refl w.heap.size w).alloc (Nat.le_refl _) (.cells #[.int .i64 kd, .string nm, .int .i64 lo, .int .i64 hi, .slice (some ⟨bk, ok, none⟩) m cK] 34))
  replace y0 := below_cell HB.out y0
  replace ck := below_cell HB.out ck
  clear hl hn hm hK hj2 ht hnt hnodes hkc hx hy hk0
  go_enter Tryd.func29, Tryd.ntmps29
  go_wp2_with fail
  go_quiet (first
    | (go_at_call 48; exact quiet_left ⟨_, rfl⟩ (HR.out _))
    | (go_at_call 49; exact quiet_left ⟨_, rfl⟩ (HS.out _)))
  go_wp2_with fail
  go_ret
  exact ⟨rfl, HB.out.trans (bel_drew1 _ _ _)⟩
set_option maxHeartbeats 8000000 in
set_option maxRecDepth 100000 in
theorem landLevels (A : Option Addr) (n c : Nat) (l : List Nd) (nd : Nd) (K : Option Addr) (m cK j t : Nat) (nt : Nd) (w : World) (hl : l.length = n) (hn : n ≤ 1048576) (h : Nodes Any w A l)
    (hm : nd.kids.length = m) (hK : Rd .i64 w K m nd.kids) (hj : j < m) (hj2 : m ≤ 2) (ht : nd.kids[j]?.getD 0 = (t : Int)) (hnt : l[t]? = some nt) :
    Calls Tryd.prog 20 #[.slice A n c, .agg #[.int .i64 nd.kind, .string nd.name, .int .i64 nd.lo, .int .i64 nd.hi, .slice K m cK], .int .i64 (j : Int)] w fun e w' =>
      e = .returned (.int .i64 ((if m = 1 ∧ nd.kind ≠ 22 then 1 else 0) + (if rank nt.kind < leastS nd.kind j then 1 else 0))) ∧ Below w.heap.size w w' := by
  have HE := Lib.hid (fun W (hb : Below w.heap.size w W) => landEnclosed A n c l nd K m cK j t nt W hl hn (h.below hb) hm (hK.below hb) hj hj2 ht hnt)
  obtain ⟨kd, nm, lo, hi, ks⟩ := nd
  have hk0 : (⟨kd, nm, lo, hi, ks⟩ : Nd).kind = kd := rfl
  have hk1 : (⟨kd, nm, lo, hi, ks⟩ : Nd).name = nm := rfl
  have hk2 : (⟨kd, nm, lo, hi, ks⟩ : Nd).lo = lo := rfl
  have hk3 : (⟨kd, nm, lo, hi, ks⟩ : Nd).hi = hi := rfl
  rw [hk0, hk1, hk2, hk3] at HE
  rw [hk0, hk1, hk2, hk3]
  have hb0 : Below w.heap.size w (w.alloc (.cells #[.int .i64 kd, .string nm, .int .i64 lo, .int .i64 hi, .slice K m cK] 34)) := (Below.refl w.heap.size w).alloc (Nat.le_refl _) _
  have HB := Lib.hid hb0
  clear hk0 hk1 hk2 hk3 hl hn h hm hK ht hnt hb0
  have hm64 : (m : Int) ≤ 2 := by omega
  have hm0 : (0 : Int) ≤ (m : Int) := by omega
  obtain ⟨x, hx⟩ : ∃ x, decide (rank nt.kind < leastS kd j) = x := ⟨_, rfl⟩
  have hif : (if rank nt.kind < leastS kd j then (1 : Int) else 0) = if x = true then 1 else 0 := by rw [← hx]; simp
  rw [hx] at HE
  rw [hif]
  clear hx hif
  by_cases h1 : m = 1
  · subst h1
    by_cases h22 : kd = 22
    · subst h22
      cases x
      all_goals
        go_enter Tryd.func20, Tryd.ntmps20
        go_wp2_with (go_at_call 29; refine (HE.out _ HB.out).mono ?_; rintro e w' ⟨rfl, hb⟩)
        go_ret
        exact ⟨rfl, HB.out.trans (hb.mono HB.out.size)⟩
    · have k22 : (kd == 22) = false := beq_eq_false_iff_ne.2 h22
      rw [if_pos ⟨rfl, h22⟩]
      clear h22
      cases x
      all_goals
        go_enter Tryd.func20, Tryd.ntmps20
        go_wp2_with (go_at_call 29; refine (HE.out _ HB.out).mono ?_; rintro e w' ⟨rfl, hb⟩)
        go_ret
        exact ⟨rfl, HB.out.trans (hb.mono HB.out.size)⟩
  · have m1 : ((m : Int) == 1) = false := beq_eq_false_iff_ne.2 (by omega)
    rw [if_neg (fun h => h1 h.1)]
    clear h1
    cases x
    all_goals
      go_enter Tryd.func20, Tryd.ntmps20
      go_wp2_with (go_at_call 29; refine (HE.out _ HB.out).mono ?_; rintro e w' ⟨rfl, hb⟩)
      go_ret
      exact ⟨rfl, HB.out.trans (hb.mono HB.out.size)⟩
end Go.Proofs.YtmjfopggehopjaaDoor.Show
