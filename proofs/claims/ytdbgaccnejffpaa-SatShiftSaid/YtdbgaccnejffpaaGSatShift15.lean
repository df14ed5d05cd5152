/-
  Ids as plain lists: which may be. By an AI agent.
  Traces as plain lists: what may be, what holds, beginnings, fronts, an event added. By an AI agent.
  Operations of a drawn region that are not wanted, a row of them passed at once. By an AI agent.
  What the landed judge looks at; the distance of two points (stage 15). By an AI agent.
  The closures of the landed past and future (stage 15). By an AI agent. (Written by wip/tools/genclos15.py.)
  Stretches of points at a distance that a span allows (stage 15). By an AI agent.
-/
import Derived.Test.YtdbgaccnejffpaaGSatShift14
import Derived.Test.YtdbgaccnejffpaaGSatShift4
import Derived.Deep.RegionHeld3
import Derived.Test.YtdbgaccnejffpaaGSatShift1
import Derived.Test.YtdbgaccnejffpaaGSatShift3
import Derived.Test.YtdbgaccnejffpaaGSatShift13
namespace Go.Proofs.Ytdbgaccnejffpaa.Trace
def IdGood (l : List Int) (props : Int) (i : Nat) : Prop := 0 ≤ l.getD i 0 ∧ l.getD i 0 < props ∧ (0 < i → l.getD (i - 1) 0 < l.getD i 0)
instance (l : List Int) (props : Int) (i : Nat) : Decidable (IdGood l props i) := by unfold IdGood; infer_instance
def idsOk (l : List Int) (props : Int) : Bool := decide (∀ i, i < l.length → IdGood l props i)
theorem ids_yes {l : List Int} {p : Int} (h : ∀ i, i < l.length → IdGood l p i) : idsOk l p = true := decide_eq_true h
theorem ids_no {l : List Int} {p : Int} {i : Nat} (hi : i < l.length) (h : ¬ IdGood l p i) : idsOk l p = false := decide_eq_false fun e => h (e i hi)
theorem good_more {p : Nat → Prop} {k : Nat} (h : ∀ i, i < k → p i) (hk : p k) : ∀ i, i < k + 1 → p i := fun i hi => by
 by_cases e : i = k
 ·exact e ▸ hk
 ·exact h i (by omega)
theorem idsOk_iff (l : List Int) (p : Int) : idsOk l p = true ↔ ∀ i, i < l.length → IdGood l p i := decide_eq_true_iff
end Go.Proofs.Ytdbgaccnejffpaa.Trace

namespace Go.Proofs.Ytdbgaccnejffpaa.Trace
open Go.Proofs.Ytdbgaccnejffpaa.Lex (nameS)
def NameGood (l : List (List UInt8)) (i : Nat) : Prop := nameS (l.getD i []) = true ∧ l.getD i [] ∉ l.take i
instance (l : List (List UInt8)) (i : Nat) : Decidable (NameGood l i) := by unfold NameGood; infer_instance
def namesOk (l : List (List UInt8)) : Bool := decide (l.length ≤ 64 ∧ ∀ i, i < l.length → NameGood l i)
def EvGood (l : List Ev) (props : Int) (i : Nat) : Prop := idsOk (l.getD i noEv).ids props = true ∧ (0 < i → (l.getD (i - 1) noEv).time ≤ (l.getD i noEv).time)
instance (l : List Ev) (props : Int) (i : Nat) : Decidable (EvGood l props i) := by unfold EvGood; infer_instance
def evsOk (l : List Ev) (props : Int) : Bool := decide (∀ i, i < l.length → EvGood l props i)
def mayT (t : Tr) : Bool := namesOk t.names && evsOk t.events t.names.length
def holdsT (t : Tr) (i : Int) (s : List UInt8) : Bool :=
 mayT t && (decide (0 ≤ i ∧ i < t.events.length) && (decide (s ∈ t.names) && decide (((t.names.idxOf s : Nat) : Int) ∈ (t.events.getD i.toNat noEv).ids)))
structure TrSmall (t : Tr) : Prop where
 names : t.names.length ≤ 1048576
 events : t.events.length ≤ 1048576
 ids : ∀ e ∈ t.events, e.ids.length ≤ 1048576
theorem names_yes {l : List (List UInt8)} (h64 : l.length ≤ 64) (h : ∀ i, i < l.length → NameGood l i) : namesOk l = true := decide_eq_true ⟨h64, h⟩
theorem names_no {l : List (List UInt8)} {i : Nat} (hi : i < l.length) (h : ¬ NameGood l i) : namesOk l = false := decide_eq_false fun e => h (e.2 i hi)
theorem names_long {l : List (List UInt8)} (h : 64 < l.length) : namesOk l = false := decide_eq_false fun e => by have := e.1; omega
theorem evs_yes {l : List Ev} {p : Int} (h : ∀ i, i < l.length → EvGood l p i) : evsOk l p = true := decide_eq_true h
theorem evs_no {l : List Ev} {p : Int} {i : Nat} (hi : i < l.length) (h : ¬ EvGood l p i) : evsOk l p = false := decide_eq_false fun e => h (e i hi)
theorem evsOk_iff (l : List Ev) (p : Int) : evsOk l p = true ↔ ∀ i, i < l.length → EvGood l p i := decide_eq_true_iff
theorem mayT_iff (t : Tr) : mayT t = true ↔ namesOk t.names = true ∧ evsOk t.events t.names.length = true := by unfold mayT; rw [Bool.and_eq_true]
end Go.Proofs.Ytdbgaccnejffpaa.Trace

namespace Go.Proofs.Ytdbgaccnejffpaa.Skips
open Go
section
variable {P : Program} {ops : Array Oper} {Q : Exit → Act → World → Prop} {md : Region.Mode} {S : World → Prop}
def skipsOk (md : Region.Mode) (ops : Array Oper) : List Nat → Array Bool → Act → Bool
 | [], _, _ => true
 | i :: is, listed, a => match ops[i]? with
  | none => false
  | some o => Region.free md ops listed i && (Region.ready md ops listed).contains i && !(Region.wanted o (yielded ops a.tmps)) && skipsOk md ops is (listed.setIfInBounds i true) (a.put o.dst undef)
def skipListed : List Nat → Array Bool → Array Bool
 | [], listed => listed
 | i :: is, listed => skipListed is (listed.setIfInBounds i true)
def skipAct (ops : Array Oper) : List Nat → Act → Act
 | [], a => a
 | i :: is, a => match ops[i]? with
  | none => a
  | some o => skipAct ops is (a.put o.dst undef)
theorem skips {w : World} (hs : Region.noSelect ops = true) (hQ : ∀ (d : Tmp) (v : Value) c a w, Q (.panic c) (a.put (some d) v) w → Q (.panic c) a w) (hS : S w) :
  ∀ (is : List Nat) (n fuel : Nat) (listed : Array Bool) (a : Act), n = fuel + is.length → skipsOk md ops is listed a = true →
   wpAnyH P md ops Q S fuel (skipListed is listed) (skipAct ops is a) w → wpAnyH P md ops Q S n listed a w := by
 intro is
 induction is with
 | nil => intro n fuel listed a hn _ h; subst hn; exact h
 | cons i is ih =>
  intro n fuel listed a hn hk h
  subst hn
  unfold skipsOk at hk
  unfold skipAct at h
  cases hi : ops[i]? with
  | none => rw [hi] at hk; cases hk
  | some o =>
   rw [hi] at hk h
   simp only [Bool.and_eq_true, Bool.not_eq_true'] at hk
   obtain ⟨⟨⟨h1, h2⟩, h3⟩, h4⟩ := hk
   exact wpAnyH_take (fuel := fuel + is.length) hi hs h1 h2 (by cases o.dst with | none => exact fun _ _ _ h => h | some d => exact hQ d _) (Or.inr ⟨h3, rfl⟩) hS (ih _ fuel _ _ rfl h4 h)
end
end Go.Proofs.Ytdbgaccnejffpaa.Skips

namespace Go.Proofs.Ytdbgaccnejffpaa.Sat
open Go.RowKit Go.Proofs.Ytdbgaccnejffpaa.Ints Go.Proofs.Ytdbgaccnejffpaa.Mem Go.Proofs.Ytdbgaccnejffpaa.Src Go.Proofs.Ytdbgaccnejffpaa.Paths Go.Proofs.Ytdbgaccnejffpaa.Late Go.Proofs.Ytdbgaccnejffpaa.Trace
def tmOf (t : Tr) : Tm := ⟨t.events.length, fun i => ((t.events.getD i noEv).time).toNat, fun s i => holdsT t ((i : Nat) : Int) s = true⟩
structure Jd where
 gj : Nat
 n : Nat
 nn : Nat
 nc : Nat
 ec : Nat
 lc : Nat
 bt : Nat
 NA : Option Addr
 EA : Option Addr
 LA : Option Addr
 t : Tr
 l : List Tree.Nd
structure JW (J : Jd) (W : World) : Prop where
 c0 : W.cell? ⟨J.gj, 0, none⟩ = some (.slice J.NA J.nn J.nc)
 c1 : W.cell? ⟨J.gj, 1, none⟩ = some (.slice J.EA J.n J.ec)
 c2 : W.cell? ⟨J.gj, 2, none⟩ = some (.slice J.LA J.l.length J.lc)
 c3 : W.cell? ⟨J.gj, 3, none⟩ = some (.slice (some ⟨J.bt, 0, none⟩) J.l.length J.l.length)
 tr : TrOk Any W J.NA J.nn J.nc J.EA J.n J.ec J.t
 nodes : Tree.Nodes Tree.Any W J.LA J.l
 lcap : J.l.length ≤ J.lc ∧ J.lc ≤ maxLen
 mt : mayT J.t = true
 ml : Tree.mayL J.l = true
 hn : J.n ≤ 64
 hl : J.l.length ≤ 1000
section
variable {J : Jd} {W W' : World}
theorem JW.below (h : JW J W) (hb : Below W.heap.size W W') : JW J W' :=
 ⟨below_cell hb h.c0, below_cell hb h.c1, below_cell hb h.c2, below_cell hb h.c3, h.tr.below hb, h.nodes.below hb, h.lcap, h.mt, h.ml, h.hn, h.hl⟩
theorem JW.tn (h : JW J W) : (tmOf J.t).n = J.n := h.tr.elen
theorem time_mono {t : Tr} (h : mayT t = true) {i j : Nat} (hij : i ≤ j) (hj : j < t.events.length) : (tmOf t).tm i ≤ (tmOf t).tm j := by
 have hm := ((mayT_iff t).1 h).2
 rw [evsOk_iff] at hm
 induction j with
 | zero => rw [show i = 0 by omega]; exact Nat.le_refl _
 | succ j ih =>
  by_cases e : i = j + 1
  ·rw [e]; exact Nat.le_refl _
  ·have h1 := ih (by omega) (by omega)
   have h2 := (hm (j + 1) hj).2 (by omega)
   rw [Nat.add_sub_cancel] at h2
   refine Nat.le_trans h1 ?_
   show ((t.events.getD j noEv).time).toNat ≤ ((t.events.getD (j + 1) noEv).time).toNat
   omega
theorem JW.ev (h : JW J W) {i : Nat} (hi : i < J.n) : ∃ (b off : Nat) (K : Option Addr) (c : Nat), J.EA = some ⟨b, off, none⟩ ∧ W.cell? ⟨b, off + i * 2, none⟩ = some (.int .u64 (((tmOf J.t).tm i : Nat) : Int)) ∧ (tmOf J.t).tm i < 18446744073709551616 ∧
  W.cell? ⟨b, off + i * 2 + 1, none⟩ = some (.slice K ((J.t.events.getD i noEv).ids.length) c) ∧ Rd .i64 W K (J.t.events.getD i noEv).ids.length (J.t.events.getD i noEv).ids ∧ (J.t.events.getD i noEv).ids.length ≤ c ∧ c ≤ maxLen := by
 have he := h.tr.elen
 obtain ⟨b, off, e, hc⟩ := h.tr.evs (by omega)
 obtain ⟨x, hx⟩ : ∃ x, J.t.events[i]? = some x := ⟨_, List.getElem?_eq_getElem (by omega)⟩
 have hd : J.t.events.getD i noEv = x := by rw [List.getD_eq_getElem?_getD, hx]; rfl
 obtain ⟨h1, h2, K, c, h3, h4, h5, h6, -⟩ := hc i x hx
 have hw := wf_u64 h2
 have ht : (((tmOf J.t).tm i : Nat) : Int) = x.time := by
  show ((((J.t.events.getD i noEv).time).toNat : Nat) : Int) = _
  rw [hd]
  omega
 refine ⟨b, off, K, c, e, ?_, by omega, ?_, ?_, ?_, h6⟩
 ·rw [ht, Nat.mul_comm]; exact h1
 ·rw [hd, Nat.mul_comm]; exact h3
 ·rw [hd]; exact h4
 ·rw [hd]; exact h5
end
set_option maxHeartbeats 8000000 in
set_option maxRecDepth 100000 in
theorem landDist (J : Jd) (i j : Nat) (w : World) (h : JW J w) (hij : i ≤ j) (hj : j < J.n) :
  Calls Try.prog 58 #[.pointer (some ⟨J.gj, 0, none⟩), .int .i64 ((i : Nat) : Int), .int .i64 ((j : Nat) : Int)] w fun e w' => e = .returned (.int .u64 (((tmOf J.t).tm j - (tmOf J.t).tm i : Nat) : Int)) ∧ Below w.heap.size w w' := by
 obtain ⟨b, off, K, c, hE, x1, y1, -⟩ := h.ev (show i < J.n by omega)
 obtain ⟨b', off', K', c', hE', x2, y2, -⟩ := h.ev hj
 rw [hE] at hE'
 injection hE' with hE'
 injection hE' with e1 e2 _
 subst e1
 subst e2
 have hm := time_mono h.mt hij (by rw [h.tr.elen]; exact hj)
 have c1 := h.c1
 obtain ⟨X, hX⟩ : ∃ X, (tmOf J.t).tm i = X := ⟨_, rfl⟩
 obtain ⟨Y, hY⟩ : ∃ Y, (tmOf J.t).tm j = Y := ⟨_, rfl⟩
 rw [hX] at x1 hm y1
 rw [hY] at x2 hm y2
 rw [hX, hY]
 rw [hE] at c1
 have hii : ((i : Nat) : Int) < ((J.n : Nat) : Int) := by omega
 have hji : ((j : Nat) : Int) < ((J.n : Nat) : Int) := by omega
 have hwr : IntKind.u64.wrap (((Y : Nat) : Int) - ((X : Nat) : Int)) = ((Y - X : Nat) : Int) := by
  rw [show ((Y : Nat) : Int) - ((X : Nat) : Int) = ((Y - X : Nat) : Int) by omega]
  have hw : ∀ n : Int, IntKind.u64.wrap n = n % 18446744073709551616 := fun n => by simp [IntKind.wrap, IntKind.bits, IntKind.signed]
  rw [hw]
  omega
 have hB0 := Lib.hid (Below.refl w.heap.size w)
 obtain ⟨g, hg⟩ : ∃ g, J.gj = g := ⟨_, rfl⟩
 obtain ⟨n, hn⟩ : ∃ n, J.n = n := ⟨_, rfl⟩
 rw [hg] at c1 ⊢
 rw [hn] at c1 hii hji
 clear h hE hX hY hm hij hj hg hn y1 y2
 go_enter Try.func58, Try.ntmps58
 go_wp2_with fail
 refine wp_region_held_drew (S := fun V => V.cell? ⟨g, 1, none⟩ = some (.slice (some ⟨b, off, none⟩) n J.ec) ∧ V.cell? ⟨b, off + i * 2, none⟩ = some (.int .u64 ((X : Nat) : Int)) ∧ V.cell? ⟨b, off + j * 2, none⟩ = some (.int .u64 ((Y : Nat) : Int))) (by kernel_rfl) ⟨c1, x1, x2⟩ (fun hHeld => ?_)
 refine tkOp 0 hHeld ?_
 refine tkOp 1 hHeld ?_
 refine tkOp 2 hHeld ?_
 refine tkOp 3 hHeld ?_
 refine tkOp 4 hHeld ?_
 refine tkOp 5 hHeld ?_
 refine tkOp 6 hHeld ?_
 refine tkOp 7 hHeld ?_
 refine tkOp 8 hHeld ?_
 refine tkOp 9 hHeld ?_
 refine tkOp 10 hHeld ?_
 refine tkOp 11 hHeld ?_
 refine tkOp 12 hHeld ?_
 refine tkOp 13 hHeld ?_
 refine tkOp 14 hHeld ?_
 refine tkOp 15 hHeld ?_
 refine tkOp 16 hHeld ?_
 refine tkOp 17 hHeld ?_
 refine wpAnyH_done (by kernel_rfl) ?_ _
 clear hHeld
 go_wp2_with fail
 go_ret
 exact ⟨rfl, hB0.out.drew⟩
end Go.Proofs.Ytdbgaccnejffpaa.Sat

namespace Go.Proofs.Ytdbgaccnejffpaa.Sat
open Go.RowKit Go.Proofs.Ytdbgaccnejffpaa.Ints Go.Proofs.Ytdbgaccnejffpaa.Mem Go.Proofs.Ytdbgaccnejffpaa.Src Go.Proofs.Ytdbgaccnejffpaa.Paths Go.Proofs.Ytdbgaccnejffpaa.Late Go.Proofs.Ytdbgaccnejffpaa.Trace
theorem wrap_small (x : Int) (h : 0 ≤ x ∧ x ≤ 9223372036854775807) : IntKind.i64.wrap x = x := by
 exact IntWalk.i64_in _ (by omega)
set_option maxHeartbeats 8000000 in
set_option maxRecDepth 100000 in
theorem past1 (J : Jd) (bs bx bi i j : Nat) (lo hi : Int) (w : World) (h : JW J w) (hs0 : w.cell? ⟨bs, 0, none⟩ = some (.int .i64 lo)) (hs1 : w.cell? ⟨bs, 1, none⟩ = some (.int .i64 hi)) (hx : w.cell? ⟨bx, 0, none⟩ = some (.pointer (some ⟨J.gj, 0, none⟩))) (hi0 : w.cell? ⟨bi, 0, none⟩ = some (.int .i64 ((i : Nat) : Int))) (hji : j ≤ i) (hin : i < J.n) :
  Calls Try.prog 62 #[.int .i64 ((j : Nat) : Int), .pointer (some ⟨bs, 0, none⟩), .pointer (some ⟨bx, 0, none⟩), .pointer (some ⟨bi, 0, none⟩)] w fun e w' => e = .returned (.bool (decide (0 ≤ Ival.classS lo hi ((tmOf J.t).tm i - (tmOf J.t).tm j)))) ∧ Below w.heap.size w w' := by
 have HD := Lib.hid (fun V (hb : Below w.heap.size w V) => landDist J j i V (h.below hb) (by omega) (by omega))
 obtain ⟨D, hD⟩ : ∃ D, (tmOf J.t).tm i - (tmOf J.t).tm j = D := ⟨_, rfl⟩
 have hD6 : D < 18446744073709551616 := by obtain ⟨_, _, _, _, _, _, y1, -⟩ := h.ev (show i < J.n by omega); omega
 rw [hD] at HD ⊢
 have HC := Lib.hid (fun V => Ival.progClass lo hi D V hD6)
 have hn64 := h.hn
 obtain ⟨g, hg⟩ : ∃ g, J.gj = g := ⟨_, rfl⟩
 rw [hg] at hx HD
 clear h hD hg hD6
 go_enter Try.func62, Try.ntmps62
 go_wp2_with fail
 refine wp_region_held_drew (S := fun V => V.cell? ⟨bs, 0, none⟩ = some (.int .i64 lo) ∧ V.cell? ⟨bs, 1, none⟩ = some (.int .i64 hi) ∧ V.cell? ⟨bx, 0, none⟩ = some (.pointer (some ⟨g, 0, none⟩)) ∧ V.cell? ⟨bi, 0, none⟩ = some (.int .i64 ((i : Nat) : Int))) (by kernel_rfl) ⟨hs0, hs1, hx, hi0⟩ (fun hHeld => ?_)
 refine tkOp 0 hHeld ?_
 refine tkOp 1 hHeld ?_
 refine tkOp 2 hHeld ?_
 refine tkOp 3 hHeld ?_
 refine tkCall 4 (fun Kt hKt => ?_)
 go_simp
 (go_at_call 58; refine (HD.out _ (Below.refl _ _).drew).mono ?_; rintro e w1 ⟨rfl, hb1⟩)
 refine hKt.out _ _ ?_ (fun hT => ?_)
 ·(exact ⟨below_cell hb1 (show w.drew.cell? _ = _ from hs0), below_cell hb1 (show w.drew.cell? _ = _ from hs1), below_cell hb1 (show w.drew.cell? _ = _ from hx), below_cell hb1 (show w.drew.cell? _ = _ from hi0)⟩)
 clear hKt Kt hHeld
 have hHeld := hT
 clear hT
 try simp only [Act.put, tkA, tkB, tkC]
 refine tkCall 5 (fun Kt hKt => ?_)
 go_simp
 (go_at_call 63; refine (HC.out _).mono ?_; rintro e w2 ⟨rfl, hb2⟩)
 refine hKt.out _ _ ?_ (fun hT => ?_)
 ·(exact ⟨below_cell hb2 (below_cell hb1 (show w.drew.cell? _ = _ from hs0)), below_cell hb2 (below_cell hb1 (show w.drew.cell? _ = _ from hs1)), below_cell hb2 (below_cell hb1 (show w.drew.cell? _ = _ from hx)), below_cell hb2 (below_cell hb1 (show w.drew.cell? _ = _ from hi0))⟩)
 clear hKt Kt hHeld
 have hHeld := hT
 clear hT
 try simp only [Act.put, tkA, tkB, tkC]
 refine tkOp 6 hHeld ?_
 refine tkOp 7 hHeld ?_
 refine wpAnyH_done (by kernel_rfl) ?_ _
 have HB := Lib.hid ((Below.refl w.heap.size w).drew.trans (Below.trans hb1 (hb2.mono hb1.size)))
 clear hHeld hb1 hb2
 go_wp2_with fail
 go_ret
 exact ⟨rfl, HB.out⟩
set_option maxHeartbeats 8000000 in
set_option maxRecDepth 100000 in
theorem past2 (J : Jd) (bs bx bf bi F i k j : Nat) (lo hi : Int) (w : World) (h : JW J w) (hs0 : w.cell? ⟨bs, 0, none⟩ = some (.int .i64 lo)) (hs1 : w.cell? ⟨bs, 1, none⟩ = some (.int .i64 hi)) (hx : w.cell? ⟨bx, 0, none⟩ = some (.pointer (some ⟨J.gj, 0, none⟩))) (hf0 : w.cell? ⟨bf, 0, none⟩ = some (.int .i64 ((F : Nat) : Int))) (hi0 : w.cell? ⟨bi, 0, none⟩ = some (.int .i64 ((i : Nat) : Int))) (hj : F + k = j) (hji : j ≤ i) (hin : i < J.n) :
  Calls Try.prog 64 #[.int .i64 ((k : Nat) : Int), .pointer (some ⟨bs, 0, none⟩), .pointer (some ⟨bx, 0, none⟩), .pointer (some ⟨bf, 0, none⟩), .pointer (some ⟨bi, 0, none⟩)] w fun e w' => e = .returned (.bool (!(Ival.hasS lo hi ((tmOf J.t).tm i - (tmOf J.t).tm j)))) ∧ Below w.heap.size w w' := by
 have HD := Lib.hid (fun V (hb : Below w.heap.size w V) => landDist J j i V (h.below hb) (by omega) (by omega))
 obtain ⟨D, hD⟩ : ∃ D, (tmOf J.t).tm i - (tmOf J.t).tm j = D := ⟨_, rfl⟩
 have hD6 : D < 18446744073709551616 := by obtain ⟨_, _, _, _, _, _, y1, -⟩ := h.ev (show i < J.n by omega); omega
 rw [hD] at HD ⊢
 have HC := Lib.hid (fun V => Ival.progHas lo hi D V hD6)
 have hn64 := h.hn
 obtain ⟨g, hg⟩ : ∃ g, J.gj = g := ⟨_, rfl⟩
 rw [hg] at hx HD
 have hw : IntKind.i64.wrap (((F : Nat) : Int) + ((k : Nat) : Int)) = ((j : Nat) : Int) := by rw [show ((F : Nat) : Int) + ((k : Nat) : Int) = ((j : Nat) : Int) by omega]; exact wrap_small _ (by omega)
 clear hj
 clear h hD hg hD6
 go_enter Try.func64, Try.ntmps64
 go_wp2_with fail
 refine wp_region_held_drew (S := fun V => V.cell? ⟨bs, 0, none⟩ = some (.int .i64 lo) ∧ V.cell? ⟨bs, 1, none⟩ = some (.int .i64 hi) ∧ V.cell? ⟨bx, 0, none⟩ = some (.pointer (some ⟨g, 0, none⟩)) ∧ V.cell? ⟨bf, 0, none⟩ = some (.int .i64 ((F : Nat) : Int)) ∧ V.cell? ⟨bi, 0, none⟩ = some (.int .i64 ((i : Nat) : Int))) (by kernel_rfl) ⟨hs0, hs1, hx, hf0, hi0⟩ (fun hHeld => ?_)
 refine tkOp 0 hHeld ?_
 refine tkOp 1 hHeld ?_
 refine tkOp 2 hHeld ?_
 refine tkOp 3 hHeld ?_
 refine tkOp 4 hHeld ?_
 refine tkOp 5 hHeld ?_
 refine tkCall 6 (fun Kt hKt => ?_)
 go_simp
 (go_at_call 58; refine (HD.out _ (Below.refl _ _).drew).mono ?_; rintro e w1 ⟨rfl, hb1⟩)
 refine hKt.out _ _ ?_ (fun hT => ?_)
 ·(exact ⟨below_cell hb1 (show w.drew.cell? _ = _ from hs0), below_cell hb1 (show w.drew.cell? _ = _ from hs1), below_cell hb1 (show w.drew.cell? _ = _ from hx), below_cell hb1 (show w.drew.cell? _ = _ from hf0), below_cell hb1 (show w.drew.cell? _ = _ from hi0)⟩)
 clear hKt Kt hHeld
 have hHeld := hT
 clear hT
 try simp only [Act.put, tkA, tkB, tkC]
 refine tkCall 7 (fun Kt hKt => ?_)
 go_simp
 (go_at_call 57; refine (HC.out _).mono ?_; rintro e w2 ⟨rfl, hb2⟩)
 refine hKt.out _ _ ?_ (fun hT => ?_)
 ·(exact ⟨below_cell hb2 (below_cell hb1 (show w.drew.cell? _ = _ from hs0)), below_cell hb2 (below_cell hb1 (show w.drew.cell? _ = _ from hs1)), below_cell hb2 (below_cell hb1 (show w.drew.cell? _ = _ from hx)), below_cell hb2 (below_cell hb1 (show w.drew.cell? _ = _ from hf0)), below_cell hb2 (below_cell hb1 (show w.drew.cell? _ = _ from hi0))⟩)
 clear hKt Kt hHeld
 have hHeld := hT
 clear hT
 try simp only [Act.put, tkA, tkB, tkC]
 refine tkOp 8 hHeld ?_
 refine tkOp 9 hHeld ?_
 refine wpAnyH_done (by kernel_rfl) ?_ _
 have HB := Lib.hid ((Below.refl w.heap.size w).drew.trans (Below.trans hb1 (hb2.mono hb1.size)))
 clear hHeld hb1 hb2
 go_wp2_with fail
 go_ret
 exact ⟨rfl, HB.out⟩
set_option maxHeartbeats 8000000 in
set_option maxRecDepth 100000 in
theorem fut1 (J : Jd) (bs bx bi i k j : Nat) (lo hi : Int) (w : World) (h : JW J w) (hs0 : w.cell? ⟨bs, 0, none⟩ = some (.int .i64 lo)) (hs1 : w.cell? ⟨bs, 1, none⟩ = some (.int .i64 hi)) (hx : w.cell? ⟨bx, 0, none⟩ = some (.pointer (some ⟨J.gj, 0, none⟩))) (hi0 : w.cell? ⟨bi, 0, none⟩ = some (.int .i64 ((i : Nat) : Int))) (hj : i + k = j) (hin : j < J.n) :
  Calls Try.prog 65 #[.int .i64 ((k : Nat) : Int), .pointer (some ⟨bs, 0, none⟩), .pointer (some ⟨bx, 0, none⟩), .pointer (some ⟨bi, 0, none⟩)] w fun e w' => e = .returned (.bool (decide (Ival.classS lo hi ((tmOf J.t).tm j - (tmOf J.t).tm i) < 0))) ∧ Below w.heap.size w w' := by
 have HD := Lib.hid (fun V (hb : Below w.heap.size w V) => landDist J i j V (h.below hb) (by omega) (by omega))
 obtain ⟨D, hD⟩ : ∃ D, (tmOf J.t).tm j - (tmOf J.t).tm i = D := ⟨_, rfl⟩
 have hD6 : D < 18446744073709551616 := by obtain ⟨_, _, _, _, _, _, y1, -⟩ := h.ev (show j < J.n by omega); omega
 rw [hD] at HD ⊢
 have HC := Lib.hid (fun V => Ival.progClass lo hi D V hD6)
 have hn64 := h.hn
 obtain ⟨g, hg⟩ : ∃ g, J.gj = g := ⟨_, rfl⟩
 rw [hg] at hx HD
 have hw : IntKind.i64.wrap (((i : Nat) : Int) + ((k : Nat) : Int)) = ((j : Nat) : Int) := by rw [show ((i : Nat) : Int) + ((k : Nat) : Int) = ((j : Nat) : Int) by omega]; exact wrap_small _ (by omega)
 clear hj
 clear h hD hg hD6
 go_enter Try.func65, Try.ntmps65
 go_wp2_with fail
 refine wp_region_held_drew (S := fun V => V.cell? ⟨bs, 0, none⟩ = some (.int .i64 lo) ∧ V.cell? ⟨bs, 1, none⟩ = some (.int .i64 hi) ∧ V.cell? ⟨bx, 0, none⟩ = some (.pointer (some ⟨g, 0, none⟩)) ∧ V.cell? ⟨bi, 0, none⟩ = some (.int .i64 ((i : Nat) : Int))) (by kernel_rfl) ⟨hs0, hs1, hx, hi0⟩ (fun hHeld => ?_)
 refine tkOp 0 hHeld ?_
 refine tkOp 1 hHeld ?_
 refine tkOp 2 hHeld ?_
 refine tkOp 3 hHeld ?_
 refine tkOp 4 hHeld ?_
 refine tkOp 5 hHeld ?_
 refine tkCall 6 (fun Kt hKt => ?_)
 go_simp
 (go_at_call 58; refine (HD.out _ (Below.refl _ _).drew).mono ?_; rintro e w1 ⟨rfl, hb1⟩)
 refine hKt.out _ _ ?_ (fun hT => ?_)
 ·(exact ⟨below_cell hb1 (show w.drew.cell? _ = _ from hs0), below_cell hb1 (show w.drew.cell? _ = _ from hs1), below_cell hb1 (show w.drew.cell? _ = _ from hx), below_cell hb1 (show w.drew.cell? _ = _ from hi0)⟩)
 clear hKt Kt hHeld
 have hHeld := hT
 clear hT
 try simp only [Act.put, tkA, tkB, tkC]
 refine tkCall 7 (fun Kt hKt => ?_)
 go_simp
 (go_at_call 63; refine (HC.out _).mono ?_; rintro e w2 ⟨rfl, hb2⟩)
 refine hKt.out _ _ ?_ (fun hT => ?_)
 ·(exact ⟨below_cell hb2 (below_cell hb1 (show w.drew.cell? _ = _ from hs0)), below_cell hb2 (below_cell hb1 (show w.drew.cell? _ = _ from hs1)), below_cell hb2 (below_cell hb1 (show w.drew.cell? _ = _ from hx)), below_cell hb2 (below_cell hb1 (show w.drew.cell? _ = _ from hi0))⟩)
 clear hKt Kt hHeld
 have hHeld := hT
 clear hT
 try simp only [Act.put, tkA, tkB, tkC]
 refine tkOp 8 hHeld ?_
 refine tkOp 9 hHeld ?_
 refine wpAnyH_done (by kernel_rfl) ?_ _
 have HB := Lib.hid ((Below.refl w.heap.size w).drew.trans (Below.trans hb1 (hb2.mono hb1.size)))
 clear hHeld hb1 hb2
 go_wp2_with fail
 go_ret
 exact ⟨rfl, HB.out⟩
set_option maxHeartbeats 8000000 in
set_option maxRecDepth 100000 in
theorem fut2 (J : Jd) (bs bx bi i k j : Nat) (lo hi : Int) (w : World) (h : JW J w) (hs0 : w.cell? ⟨bs, 0, none⟩ = some (.int .i64 lo)) (hs1 : w.cell? ⟨bs, 1, none⟩ = some (.int .i64 hi)) (hx : w.cell? ⟨bx, 0, none⟩ = some (.pointer (some ⟨J.gj, 0, none⟩))) (hi0 : w.cell? ⟨bi, 0, none⟩ = some (.int .i64 ((i : Nat) : Int))) (hj : i + k = j) (hin : j < J.n) :
  Calls Try.prog 66 #[.int .i64 ((k : Nat) : Int), .pointer (some ⟨bs, 0, none⟩), .pointer (some ⟨bx, 0, none⟩), .pointer (some ⟨bi, 0, none⟩)] w fun e w' => e = .returned (.bool (Ival.hasS lo hi ((tmOf J.t).tm j - (tmOf J.t).tm i))) ∧ Below w.heap.size w w' := by
 have HD := Lib.hid (fun V (hb : Below w.heap.size w V) => landDist J i j V (h.below hb) (by omega) (by omega))
 obtain ⟨D, hD⟩ : ∃ D, (tmOf J.t).tm j - (tmOf J.t).tm i = D := ⟨_, rfl⟩
 have hD6 : D < 18446744073709551616 := by obtain ⟨_, _, _, _, _, _, y1, -⟩ := h.ev (show j < J.n by omega); omega
 rw [hD] at HD ⊢
 have HC := Lib.hid (fun V => Ival.progHas lo hi D V hD6)
 have hn64 := h.hn
 obtain ⟨g, hg⟩ : ∃ g, J.gj = g := ⟨_, rfl⟩
 rw [hg] at hx HD
 have hw : IntKind.i64.wrap (((i : Nat) : Int) + ((k : Nat) : Int)) = ((j : Nat) : Int) := by rw [show ((i : Nat) : Int) + ((k : Nat) : Int) = ((j : Nat) : Int) by omega]; exact wrap_small _ (by omega)
 clear hj
 clear h hD hg hD6
 go_enter Try.func66, Try.ntmps66
 go_wp2_with fail
 refine wp_region_held_drew (S := fun V => V.cell? ⟨bs, 0, none⟩ = some (.int .i64 lo) ∧ V.cell? ⟨bs, 1, none⟩ = some (.int .i64 hi) ∧ V.cell? ⟨bx, 0, none⟩ = some (.pointer (some ⟨g, 0, none⟩)) ∧ V.cell? ⟨bi, 0, none⟩ = some (.int .i64 ((i : Nat) : Int))) (by kernel_rfl) ⟨hs0, hs1, hx, hi0⟩ (fun hHeld => ?_)
 refine tkOp 0 hHeld ?_
 refine tkOp 1 hHeld ?_
 refine tkOp 2 hHeld ?_
 refine tkOp 3 hHeld ?_
 refine tkOp 4 hHeld ?_
 refine tkOp 5 hHeld ?_
 refine tkCall 6 (fun Kt hKt => ?_)
 go_simp
 (go_at_call 58; refine (HD.out _ (Below.refl _ _).drew).mono ?_; rintro e w1 ⟨rfl, hb1⟩)
 refine hKt.out _ _ ?_ (fun hT => ?_)
 ·(exact ⟨below_cell hb1 (show w.drew.cell? _ = _ from hs0), below_cell hb1 (show w.drew.cell? _ = _ from hs1), below_cell hb1 (show w.drew.cell? _ = _ from hx), below_cell hb1 (show w.drew.cell? _ = _ from hi0)⟩)
 clear hKt Kt hHeld
 have hHeld := hT
 clear hT
 try simp only [Act.put, tkA, tkB, tkC]
 refine tkCall 7 (fun Kt hKt => ?_)
 go_simp
 (go_at_call 57; refine (HC.out _).mono ?_; rintro e w2 ⟨rfl, hb2⟩)
 refine hKt.out _ _ ?_ (fun hT => ?_)
 ·(exact ⟨below_cell hb2 (below_cell hb1 (show w.drew.cell? _ = _ from hs0)), below_cell hb2 (below_cell hb1 (show w.drew.cell? _ = _ from hs1)), below_cell hb2 (below_cell hb1 (show w.drew.cell? _ = _ from hx)), below_cell hb2 (below_cell hb1 (show w.drew.cell? _ = _ from hi0))⟩)
 clear hKt Kt hHeld
 have hHeld := hT
 clear hT
 try simp only [Act.put, tkA, tkB, tkC]
 refine tkOp 8 hHeld ?_
 refine wpAnyH_done (by kernel_rfl) ?_ _
 have HB := Lib.hid ((Below.refl w.heap.size w).drew.trans (Below.trans hb1 (hb2.mono hb1.size)))
 clear hHeld hb1 hb2
 go_wp2_with fail
 go_ret
 exact ⟨rfl, HB.out⟩
end Go.Proofs.Ytdbgaccnejffpaa.Sat

namespace Go.Proofs.Ytdbgaccnejffpaa.Sat
open Go.RowKit Go.Proofs.Ytdbgaccnejffpaa.Ints Go.Proofs.Ytdbgaccnejffpaa.Mem Go.Proofs.Ytdbgaccnejffpaa.Src Go.Proofs.Ytdbgaccnejffpaa.Paths Go.Proofs.Ytdbgaccnejffpaa.Late Go.Proofs.Ytdbgaccnejffpaa.Trace
theorem infoSt : (Try.prog.info? 92).map (fun i => (i.zero, i.size, i.bytes)) = some (some (.agg #[.int .i64 0, .int .i64 0]), 2, 16) := by kernel_rfl
theorem made_st (n : Nat) : (madeCells (Value.agg #[.int .i64 0, .int .i64 0]).cells (n * 2)).toList = List.replicate (n * 2) (.int .i64 0) := by
 have e : (Value.agg #[.int .i64 0, .int .i64 0]).cells = #[.int .i64 0, .int .i64 0] := rfl
 rw [e]
 apply List.ext_getElem
 ·simp [madeCells]
 ·intro i h1 h2
  have : i % 2 = 0 ∨ i % 2 = 1 := by omega
  rcases this with h | h <;> simp [madeCells, h]
def sg (s t : Nat → Nat) (q : Nat) : Nat := if q % 2 = 0 then s (q / 2) else t (q / 2)
theorem sg_even (s t : Nat → Nat) (j : Nat) : sg s t (j * 2) = s j := by unfold sg; rw [if_pos (by omega), show j * 2 / 2 = j by omega]
theorem sg_odd (s t : Nat → Nat) (j : Nat) : sg s t (j * 2 + 1) = t j := by unfold sg; rw [if_neg (by omega), show (j * 2 + 1) / 2 = j by omega]
def upd (s : Nat → Nat) (i x : Nat) (j : Nat) : Nat := if j = i then x else s j
theorem upd_at (s : Nat → Nat) (i x : Nat) : upd s i x i = x := if_pos rfl
theorem upd_off (s : Nat → Nat) {i j : Nat} (x : Nat) (h : j ≠ i) : upd s i x j = s j := if_neg h
def OS (w : World) (lo b n : Nat) (s t : Nat → Nat) : Prop := w.ownsRow lo 92 2 (.slice (some ⟨b, 0, none⟩) n n) n (il (n * 2) (sg s t))
theorem OS.rs {w : World} {lo b n : Nat} {s t : Nat → Nat} (h : OS w lo b n s t) : RS w b n s t := fun j hj => by
 have h1 := World.ownsRow.cells h (g := b) rfl (j * 2) _ (il_at (by omega))
 have h2 := World.ownsRow.cells h (g := b) rfl (j * 2 + 1) _ (il_at (by omega))
 rw [Addr.add_lit, Nat.zero_add, sg_even] at h1
 rw [Addr.add_lit, Nat.zero_add, sg_odd] at h2
 exact ⟨h1, h2⟩
theorem OS.lt {w : World} {lo b n : Nat} {s t : Nat → Nat} (h : OS w lo b n s t) : lo ≤ b ∧ b < w.heap.size := World.ownsRow.lt h b rfl
theorem OS.below {w w' : World} {lo b n : Nat} {s t : Nat → Nat} (h : OS w lo b n s t) (hb : Below w.heap.size w w') : OS w' lo b n s t := below_row h hb
theorem OS.put1 {w : World} {lo b n : Nat} {s t : Nat → Nat} (h : OS w lo b n s t) {i : Nat} (hi : i < n) (x : Nat) : OS (w.setCell ⟨b, i * 2, none⟩ (.int .i64 ((x : Nat) : Int))) lo b n (upd s i x) t := by
 have h1 := own_put (k := i * 2) h (.int .i64 ((x : Nat) : Int))
 rw [il_set (g' := sg (upd s i x) t) (by omega) (by rw [sg_even, upd_at]) (fun j hj hne => by
  unfold sg
  by_cases e : j % 2 = 0
  ·rw [if_pos e, if_pos e, upd_off _ _ (by omega)]
  ·rw [if_neg e, if_neg e])] at h1
 exact h1
theorem OS.put2 {w : World} {lo b n : Nat} {s t : Nat → Nat} (h : OS w lo b n s t) {i : Nat} (hi : i < n) (x : Nat) : OS (w.setCell ⟨b, i * 2 + 1, none⟩ (.int .i64 ((x : Nat) : Int))) lo b n s (upd t i x) := by
 have h1 := own_put (k := i * 2 + 1) h (.int .i64 ((x : Nat) : Int))
 rw [il_set (g' := sg s (upd t i x)) (by omega) (by rw [sg_odd, upd_at]) (fun j hj hne => by
  unfold sg
  by_cases e : j % 2 = 0
  ·rw [if_pos e, if_pos e]
  ·rw [if_neg e, if_neg e, upd_off _ _ (by omega)])] at h1
 exact h1
def GotS (w : World) (n : Nat) (Q : (Nat → Nat) → (Nat → Nat) → Prop) (e : Ending) (w' : World) : Prop := ∃ b s t, e = .returned (.slice (some ⟨b, 0, none⟩) n n) ∧ OS w' w.heap.size b n s t ∧ Q s t ∧ Below w.heap.size w w'
theorem class_in {lo hi : Int} (h : Ival.mayS lo hi = true) (d : Nat) : 0 ≤ Ival.classS lo hi d ↔ (hi = -1 ∨ (d : Int) ≤ hi) := by
 have hp := Ival.may_parts h
 unfold Ival.classS
 rw [if_pos h]
 split
 ·omega
 ·split <;> omega
theorem has_in {lo hi : Int} (h : Ival.mayS lo hi = true) (d : Nat) : Ival.hasS lo hi d = true ↔ lo ≤ (d : Int) ∧ (hi = -1 ∨ (d : Int) ≤ hi) := by
 unfold Ival.hasS
 rw [h, Bool.true_and, decide_eq_true_eq]
def PastS (T : Tm) (lo hi : Int) (j a b : Nat) : Prop := a ≤ j ∧ a ≤ b ∧ b ≤ j + 1 ∧ (∀ q, q ≤ j → (a ≤ q ↔ (hi = -1 ∨ ((T.tm j - T.tm q : Nat) : Int) ≤ hi))) ∧ ∀ q, q ≤ j → (a ≤ q ∧ q < b ↔ T.near lo hi q j)
def FutS (T : Tm) (lo hi : Int) (j a b : Nat) : Prop := j ≤ a ∧ a ≤ b ∧ j < b ∧ b ≤ T.n ∧ (∀ q, j ≤ q → q < T.n → (q < b ↔ (hi = -1 ∨ ((T.tm q - T.tm j : Nat) : Int) ≤ hi))) ∧ ∀ q, j ≤ q → q < T.n → (a ≤ q ∧ q < b ↔ T.near lo hi j q)
theorem past_of {T : Tm} {lo hi : Int} (hs : Ival.mayS lo hi = true) {j a k : Nat} (ha : a ≤ j) (h1 : ∀ q, q < a → decide (0 ≤ Ival.classS lo hi (T.tm j - T.tm q)) = false) (h2 : ∀ q, a ≤ q → q < j → decide (0 ≤ Ival.classS lo hi (T.tm j - T.tm q)) = true)
  (hk : k ≤ j + 1 - a) (h3 : ∀ q, q < k → (!(Ival.hasS lo hi (T.tm j - T.tm (a + q)))) = false) (h4 : ∀ q, k ≤ q → q < j + 1 - a → (!(Ival.hasS lo hi (T.tm j - T.tm (a + q)))) = true) : PastS T lo hi j a (a + k) := by
 have hp := Ival.may_parts hs
 have hc : ∀ q, q ≤ j → (a ≤ q ↔ (hi = -1 ∨ ((T.tm j - T.tm q : Nat) : Int) ≤ hi)) := fun q hq => by
  rw [← class_in hs]
  constructor
  ·intro h
   by_cases e : q = j
   ·rw [e, Nat.sub_self, class_in hs]
    omega
   ·exact of_decide_eq_true (h2 q h (by omega))
  ·intro h
   rcases Nat.lt_or_ge q a with h5 | h5
   ·exact absurd h (of_decide_eq_false (h1 q h5))
   ·exact h5
 refine ⟨ha, by omega, by omega, hc, fun q hq => ?_⟩
 show _ ↔ Ival.hasS lo hi (T.tm j - T.tm q) = true
 constructor
 ·rintro ⟨g1, g2⟩
  have := h3 (q - a) (by omega)
  rw [show a + (q - a) = q by omega] at this
  simpa using this
 ·intro h
  have g1 : a ≤ q := (hc q hq).2 ((has_in hs _).1 h).2
  refine ⟨g1, ?_⟩
  rcases Nat.lt_or_ge q (a + k) with g2 | g2
  ·exact g2
  ·have := h4 (q - a) (by omega) (by omega)
   rw [show a + (q - a) = q by omega, h] at this
   cases this
theorem fut_of {T : Tm} {lo hi : Int} (hs : Ival.mayS lo hi = true) {j k m : Nat} (hj : j < T.n) (hk : k ≤ T.n - j) (h1 : ∀ q, q < k → decide (Ival.classS lo hi (T.tm (j + q) - T.tm j) < 0) = false) (h2 : ∀ q, k ≤ q → q < T.n - j → decide (Ival.classS lo hi (T.tm (j + q) - T.tm j) < 0) = true)
  (hm : m ≤ k) (h3 : ∀ q, q < m → Ival.hasS lo hi (T.tm (j + q) - T.tm j) = false) (h4 : ∀ q, m ≤ q → q < k → Ival.hasS lo hi (T.tm (j + q) - T.tm j) = true) : FutS T lo hi j (j + m) (j + k) := by
 have hp := Ival.may_parts hs
 have hc : ∀ q, j ≤ q → q < T.n → (q < j + k ↔ (hi = -1 ∨ ((T.tm q - T.tm j : Nat) : Int) ≤ hi)) := fun q h5 h6 => by
  rw [← class_in hs]
  constructor
  ·intro h
   have := of_decide_eq_false (h1 (q - j) (by omega))
   rw [show j + (q - j) = q by omega] at this
   omega
  ·intro h
   rcases Nat.lt_or_ge q (j + k) with h7 | h7
   ·exact h7
   ·have := of_decide_eq_true (h2 (q - j) (by omega) (by omega))
    rw [show j + (q - j) = q by omega] at this
    omega
 have hjk : j < j + k := (hc j (Nat.le_refl _) hj).2 (by rw [Nat.sub_self]; omega)
 refine ⟨by omega, by omega, hjk, by omega, hc, fun q h5 h6 => ?_⟩
 show _ ↔ Ival.hasS lo hi (T.tm q - T.tm j) = true
 constructor
 ·rintro ⟨g1, g2⟩
  have := h4 (q - j) (by omega) (by omega)
  rwa [show j + (q - j) = q by omega] at this
 ·intro h
  have g2 : q < j + k := (hc q h5 h6).2 ((has_in hs _).1 h).2
  refine ⟨?_, g2⟩
  rcases Nat.lt_or_ge q (j + m) with g1 | g1
  ·have := h3 (q - j) (by omega)
   rw [show j + (q - j) = q by omega, h] at this
   cases this
  ·exact g1
theorem past_mono {T : Tm} {lo hi : Int} (hT : ∀ i j, i ≤ j → j < T.n → T.tm i ≤ T.tm j) {i j a b a' b' : Nat} (hij : i ≤ j) (hj : j < T.n) (h : PastS T lo hi i a b) (h' : PastS T lo hi j a' b') : a ≤ a' := by
 rcases Nat.lt_or_ge a' a with g | g
 ·have h1 := h.1
  have h2 := (h'.2.2.2.1 a' (by omega)).1 (Nat.le_refl _)
  have h3 : a ≤ a' := (h.2.2.2.1 a' (by omega)).2 (h2.imp id fun h2 => by have := hT i j hij hj; omega)
  omega
 ·exact g
theorem fut_mono {T : Tm} {lo hi : Int} (hT : ∀ i j, i ≤ j → j < T.n → T.tm i ≤ T.tm j) {i j a b a' b' : Nat} (hij : i ≤ j) (hj : j < T.n) (h : FutS T lo hi i a b) (h' : FutS T lo hi j a' b') : b ≤ b' := by
 rcases Nat.lt_or_ge b' b with g | g
 ·have h1 := h'.2.2.1
  have h2 := h.2.2.2.1
  have h3 := (h.2.2.2.2.1 b' (by omega) (by omega)).1 g
  have h4 := (h'.2.2.2.2.1 b' (by omega) (by omega)).2 (h3.imp id fun h3 => by have := hT i j hij hj; omega)
  omega
 ·exact g
end Go.Proofs.Ytdbgaccnejffpaa.Sat
