/-
  A region walked as anywhere, in a round of a loop over a function: what the plain walk shows holds there too, where nothing is deferred. By an AI agent.
  slices.Backward, ranged over: from the last element to the first (stage 14). By an AI agent. (Written by wip/tools/genback14.py.)
-/
import Derived.RangeFuncNested
import Derived.RangeFuncLeaves
import Derived.TacticsInMore
import Derived.LoopIn
import Derived.OwnWalkIn
import Derived.Deep.RegionHeld3
import Derived.Test.YtdbgaccnejffpaaGreatDoorGSatDual1
import Derived.Test.YtdbgaccnejffpaaGreatDoorGSatDual27
import Derived.RangeFuncBound
namespace Go.Proofs.YtdbgaccnejffpaaGreatDoor.Round
open Go.RowKit
abbrev Wide (r : Option Nat) : Fence := ⟨fun _ => True, none, false, r⟩
theorem fenced_all (P : Program) (r : Option Nat) (m : Machine) : m.fenced P (Wide r) := fun _ _ => ⟨fun h => (by cases h), .inl trivial, fun _ _ => trivial, fun _ h => (by cases h)⟩
theorem steps_all {P : Program} {r : Option Nat} {m m' : Machine} : StepsIn (Machine.fenced P (Wide r)) P m m' ↔ Steps P m m' :=
 ⟨StepsIn.steps, fun h => (StepsIn.of_steps h).mono fun m _ => fenced_all P r m⟩
theorem comes_all {P : Program} {r : Option Nat} {m m' : Machine} {e : Ending} (h : Comes P m m' e) : ComesIn (Machine.fenced P (Wide r)) P m m' e := by
 cases e with
 | returned v => exact steps_all.2 h
 | panicked chain => exact steps_all.2 h
 | outgrown => exact h
theorem calls_all {r : Option Nat} {n : Nat} {P : Program} {f : FuncId} {args : Array Value} {w : World} {R : Ending → World → Prop} (h : Calls P f args w R) : CallsIn (Wide r) n P f args w R :=
 ⟨trivial, fun cs _ => let ⟨e, w', fr, q, s, x⟩ := h cs; ⟨e, w', fr, q, comes_all s, x⟩⟩
theorem calls_of {n : Nat} {P : Program} {f : FuncId} {args : Array Value} {w : World} {R : Ending → World → Prop} (h : CallsIn Fence.wide n P f args w R) : Calls P f args w R := callsIn_wide.1 h
theorem rows_all {r : Option Nat} {n : Nat} {P : Program} {row : String} {args : Array Value} {w : World} {R : Value → World → Prop} (h : Rows P row args w R) : RowsIn (Wide r) n P row args w R :=
 fun c cs _ => let ⟨v, w', q, s⟩ := h c cs; ⟨v, w', q, steps_all.2 s⟩
section
variable {P : Program} {ops : Array Oper} {Q : Exit → Act → World → Prop} {n : Nat} {r : Option Nat}
theorem upon_all {o : Oper} {a : Act} {next next' : Act → World → Prop} (hn : ∀ a w, next a w → next' a w) : ∀ res, o.upon P a next Q res → o.uponIn (Wide r) n P a next' Q res
 | .ok (.value _) _, h => hn _ _ h
 | .ok .skip _, h => hn _ _ h
 | .ok (.defer _) _, h => hn _ _ h
 | .ok (.enter f args) w', h => ⟨fun e => (by cases e), calls_all (Calls.mono (R' := fun
   | .returned v, w'' => next' (a.put o.dst v) w''
   | .panicked chain, w'' => Q (.panic chain) a w''
   | .outgrown, _ => LetsOut Q) h fun e w'' he => by
    cases e with
    | returned v => exact hn _ _ he
    | panicked c => exact he
    | outgrown => exact he)⟩
 | .ok (.row row args) w', h => ⟨fun e => (by cases e), rows_all (Rows.mono h fun _ _ he => hn _ _ he)⟩
 | .halt (.panic _) _, h => h
def noDefer (ops : Array Oper) : Bool := ops.all fun o => match o.op with | .defer _ => false | _ => true
theorem noDefer_at (h : noDefer ops = true) {i : Nat} {o : Oper} (ho : ops[i]? = some o) (c : Call) : o.op ≠ .defer c := fun e => by
 unfold noDefer at h
 rw [Array.all_eq_true] at h
 obtain ⟨hi, e2⟩ := Array.getElem?_eq_some_iff.1 ho
 have := h i hi
 rw [e2, e] at this
 cases this
theorem ops_all (hd : noDefer ops = true) (hQ : ∀ a w, ¬ Q .outgrown a w) : ∀ (is : List Nat) (a : Act) (w : World), wpOps P ops Q is a w → wpOpsIn (Wide r) n P ops Q is a w := by
 intro is
 induction is with
 | nil => exact fun a w h => h
 | cons i rest ih =>
  intro a w h
  unfold wpOps at h
  unfold wpOpsIn
  cases ho : ops[i]? with
  | none => rw [ho] at h; exact ih a w h
  | some o =>
   rw [ho] at h
   dsimp only at h ⊢
   split
   ·rename_i hw
    rw [if_pos hw] at h
    rcases h with h | ⟨-, a0, w0, h⟩
    ·refine ⟨fun _ _ => trivial, ?_⟩
     have e : (o.semAt (Wide r).round a.eval) = execOp a.eval o := by
      cases r with
      | none => exact Oper.semAt_none _ _
      | some l => exact Oper.semAt_some l _ _ (noDefer_at hd ho)
     rw [e]
     exact upon_all (fun a w => ih a w) _ h
    ·exact absurd h (hQ a0 w0)
   ·rename_i hw
    rw [if_neg hw] at h
    exact ⟨fun _ _ => trivial, ih _ _ h⟩
theorem region_all {id : Nat} {l : List Oper} {a : Act} {w : World} (hd : noDefer l.toArray = true) (hQ : ∀ a w, ¬ Q .outgrown a w) (h : wpList P l.toArray Q l a w) : (Code.region id l.toArray false).wpIn (Wide r) n P Q a w := by
 refine wpIn_region (ops_all hd hQ _ _ _ ?_)
 rw [List.size_toArray, List.range_eq_range', wpOps_eq_wpList l 0 (by simp)]
 exact h
theorem region_held {id : Nat} {a : Act} {w : World} (S : World → Prop) (hm : P.follows .mixedOrders = true) (hd : noDefer ops = true) (hQ : ∀ a w, ¬ Q .outgrown a w) (hS : S w.drew)
  (h : S w.drew → wpAnyH P .any ops Q S ops.size (Array.replicate ops.size false) a w.drew) : (Code.region id ops true).wpIn (Wide r) n P Q a w := by
 refine wpIn_region_draw fun t => ops_all hd hQ _ _ _ ?_
 simp only [Region.schedule, hm, Bool.true_or, if_true]
 exact wpAny_sound ops.size t _ a _ (wpAny_of_held _ _ _ _ (h hS))
end
end Go.Proofs.YtdbgaccnejffpaaGreatDoor.Round

namespace Go.Proofs.YtdbgaccnejffpaaGreatDoor.Paths
open Go.RowKit Go.Proofs.YtdbgaccnejffpaaGreatDoor.Ints Go.Proofs.YtdbgaccnejffpaaGreatDoor.Mem Go.Proofs.YtdbgaccnejffpaaGreatDoor.Src Go.Proofs.YtdbgaccnejffpaaGreatDoor.Tree Go.Proofs.YtdbgaccnejffpaaGreatDoor.BitsWalks Go.Proofs.YtdbgaccnejffpaaGreatDoor.RdW Go.Proofs.YtdbgaccnejffpaaGreatDoor.Words Go.Proofs.YtdbgaccnejffpaaGreatDoor.Round
attribute [local go_sem] Oper.semAt_some
abbrev Ix (N : Nat) := { i : Nat // i < N }
def dn (N : Nat) : Nat → List (Ix N)
 | 0 => []
 | k + 1 => if h : N - 1 - k < N then dn N k ++ [⟨N - 1 - k, h⟩] else dn N k
theorem dn_succ {N k : Nat} (h : N - 1 - k < N) : dn N (k + 1) = dn N k ++ [⟨N - 1 - k, h⟩] := by
 show (if h : N - 1 - k < N then dn N k ++ [⟨N - 1 - k, h⟩] else dn N k) = _
 rw [dif_pos h]
theorem dn_len {N : Nat} : ∀ {k : Nat}, k ≤ N → (dn N k).length = k
 | 0, _ => rfl
 | k + 1, h => by rw [dn_succ (by omega), List.length_append, dn_len (by omega)]; rfl
def KpA (A : Nat → Prop) (W W' : World) : Prop := ∀ q, A q → W'.heap[q]? = W.heap[q]?
theorem KpA.refl (A : Nat → Prop) (W : World) : KpA A W W := fun _ _ => rfl
theorem KpA.trans {A : Nat → Prop} {W W1 W2 : World} (h : KpA A W W1) (k : KpA A W1 W2) : KpA A W W2 := fun q hq => (k q hq).trans (h q hq)
theorem kpA_b {A : Nat → Prop} {w : World} (hA : ∀ q, A q → q < w.heap.size) (W : World) (l : Nat) (o o' : Obj) (hl : w.heap.size ≤ l) (_ : W.heap[l]? = some o) (_ : o.isCells = false) (_ : o.isWalk = false) : KpA A W (W.putObj l o') :=
 fun q hq => World.putObj_heap_other (by have := hA q hq; omega)
set_option maxRecDepth 100000 in
set_option maxHeartbeats 1000000 in
theorem backE (A : Option Addr) (n c : Nat) (w : World) : Calls Tryz.prog 101 #[.slice A n c] w fun e w' => e = .returned (.func (.func 104) #[] #[.pointer (some ⟨w.heap.size, 0, none⟩)]) ∧ w' = w.alloc (.cells #[.slice A n c] 123) := by
 have hmf : ∀ (fn : Fn) (first cap : Array Value) (w : World), (Instr.makeFunc fn first cap).run Tryz.prog w = .ok (.func fn first cap) w := fun _ _ _ _ => rfl
 go_enter Tryz.func101, Tryz.ntmps101
 go_wp2
 go_ret
 exact ⟨rfl, rfl⟩
set_option maxRecDepth 100000 in
set_option maxHeartbeats 4000000 in
theorem backE_stops (n : Nat) (hn : 1 ≤ n) (Bs : Nat) (A0 : Option Addr) (N c : Nat) (val : Nat → Value) (A : Nat → Prop) (w : World) (hB : A Bs) (hA : ∀ q, A q → q < w.heap.size) (hN : N ≤ 100000000) (hc : w.cell? ⟨Bs, 0, none⟩ = some (.slice A0 N c))
  (hv : ∀ W, KpA A w W → ∀ i, i < N → ∃ (b off : Nat) (x y z : Value), A0 = some ⟨b, off, none⟩ ∧ val i = .agg #[x, y, z] ∧ W.cell? ⟨b, off + i * 3, none⟩ = some x ∧ W.cell? ⟨b, off + i * 3 + 1, none⟩ = some y ∧ W.cell? ⟨b, off + i * 3 + 2, none⟩ = some z) :
  SeqStopsK Fence.wide n Tryz.prog 104 #[.pointer (some ⟨Bs, 0, none⟩)] (fun x : Ix N => #[Value.int .i64 ((x.1 : Nat) : Int), val x.1]) (KpA A) (fun ys => ys = dn N N) (fun _ => True) N w := fun l J Jx W hW _ _ hY h0 => by
 have hWA : KpA A w W := fun q hq => hW.block q (hA q hq)
 have HV := Lib.hid (fun W' (hk : KpA A W W') => hv W' (hWA.trans hk))
 have HC := Lib.hid (fun W' (hk : KpA A W W') => (World.cell?_of_block (w := w) (a := ⟨Bs, 0, none⟩) ((hWA.trans hk) Bs hB)).trans hc)
 have c0 := HC.out W (KpA.refl _ _)
 have hN' : ((N : Nat) : Int) ≤ 100000000 := by omega
 clear hv hc
 refine callsIn_of_wp Tryz.func104 rfl trivial ?_ rfl
 simp only [Tryz.ntmps104, List.size_toArray, List.length_cons, List.length_nil, Nat.reduceAdd, Nat.reduceSub, Array.replicate_succ, Array.replicate_zero, List.push_toArray, List.append_toArray, List.nil_append, List.cons_append]
 gi_wp2
 gi_loopw [3] (fun i wr => ∃ m : Nat, m ≤ N ∧ i = .int .i64 ((m : Nat) - 1 : Int) ∧ J (dn N (N - m)) wr ∧ KpA A W wr) (fun i _ => (intOf i + 1).toNat)
 case atStart => exact ⟨N, Nat.le_refl _, by simp, by rw [Nat.sub_self]; exact h0, KpA.refl _ _⟩
 case round =>
  obtain ⟨m, hm, rfl, hJs, hk⟩ := hrel
  have c1 := HC.out wr hk
  by_cases hlt : 0 < m
  ·obtain ⟨p, hp⟩ : ∃ p, m - 1 = p := ⟨_, rfl⟩
   have e1 : ((m : Nat) : Int) - 1 = ((p : Nat) : Int) := by omega
   have hpN : p < N := by omega
   have hx := HV.out wr hk p hpN
   obtain ⟨fn, tmps, assign, body, hy, hR⟩ := hY _ ⟨p, hpN⟩ wr hJs (by rw [dn_len (by omega)]; omega)
   dsimp only at hy
   have HD := Lib.hid (show dn N (N - m) ++ [⟨p, hpN⟩] = dn N (N - p) by
    have e2 : N - p = (N - m) + 1 := by omega
    rw [e2, dn_succ (by omega)]
    congr 2
    exact Subtype.ext (by show p = N - 1 - (N - m); omega))
   rw [HD.out] at hR
   have hpi : ((p : Nat) : Int) < ((N : Nat) : Int) := by omega
   obtain ⟨b, off, x, y, z, rfl, hval, y0, y1, y2⟩ := hx
   rw [hval] at hy
   rw [e1]
   clear hp hlt e1
   gi_wp2
   refine hR.mono ?_
   rintro e W3 (⟨rfl, hJ3, hk3⟩ | ⟨rfl, hJx3⟩)
   ·gi_wp2
    go_roundw
    case rel => exact ⟨p, by omega, rfl, hJ3, hk.trans hk3⟩
    case measure => (show ((p : Int) - 1 + 1).toNat < ((p : Int) + 1).toNat; omega)
   ·gi_wp2
    refine bodyPost_ret (results_none rfl _ _ _) rfl ?_
    exact ⟨⟨_, rfl⟩, .inr ⟨_, trivial, hJx3⟩⟩
  ·obtain rfl : m = 0 := by omega
   have e1 : ((0 : Nat) : Int) - 1 = -1 := by omega
   rw [e1]
   gi_wp2
   go_end0
   exact ⟨⟨_, rfl⟩, .inl ⟨_, rfl, by rw [Nat.sub_zero] at hJs; exact hJs⟩⟩
set_option maxRecDepth 100000 in
set_option maxHeartbeats 1000000 in
theorem backV (A : Option Addr) (n c : Nat) (w : World) : Calls Tryz.prog 93 #[.slice A n c] w fun e w' => e = .returned (.func (.func 99) #[] #[.pointer (some ⟨w.heap.size, 0, none⟩)]) ∧ w' = w.alloc (.cells #[.slice A n c] 103) := by
 have hmf : ∀ (fn : Fn) (first cap : Array Value) (w : World), (Instr.makeFunc fn first cap).run Tryz.prog w = .ok (.func fn first cap) w := fun _ _ _ _ => rfl
 go_enter Tryz.func93, Tryz.ntmps93
 go_wp2
 go_ret
 exact ⟨rfl, rfl⟩
set_option maxRecDepth 100000 in
set_option maxHeartbeats 4000000 in
theorem backV_stops (n : Nat) (hn : 1 ≤ n) (Bs : Nat) (A0 : Option Addr) (N c : Nat) (val : Nat → Value) (A : Nat → Prop) (w : World) (hB : A Bs) (hA : ∀ q, A q → q < w.heap.size) (hN : N ≤ 100000000) (hc : w.cell? ⟨Bs, 0, none⟩ = some (.slice A0 N c))
  (hv : ∀ W, KpA A w W → ∀ i, i < N → ∃ (b off : Nat), A0 = some ⟨b, off, none⟩ ∧ W.cell? ⟨b, off + i, none⟩ = some (val i)) :
  SeqStopsK Fence.wide n Tryz.prog 99 #[.pointer (some ⟨Bs, 0, none⟩)] (fun x : Ix N => #[Value.int .i64 ((x.1 : Nat) : Int), val x.1]) (KpA A) (fun ys => ys = dn N N) (fun _ => True) N w := fun l J Jx W hW _ _ hY h0 => by
 have hWA : KpA A w W := fun q hq => hW.block q (hA q hq)
 have HV := Lib.hid (fun W' (hk : KpA A W W') => hv W' (hWA.trans hk))
 have HC := Lib.hid (fun W' (hk : KpA A W W') => (World.cell?_of_block (w := w) (a := ⟨Bs, 0, none⟩) ((hWA.trans hk) Bs hB)).trans hc)
 have c0 := HC.out W (KpA.refl _ _)
 have hN' : ((N : Nat) : Int) ≤ 100000000 := by omega
 clear hv hc
 refine callsIn_of_wp Tryz.func99 rfl trivial ?_ rfl
 simp only [Tryz.ntmps99, List.size_toArray, List.length_cons, List.length_nil, Nat.reduceAdd, Nat.reduceSub, Array.replicate_succ, Array.replicate_zero, List.push_toArray, List.append_toArray, List.nil_append, List.cons_append]
 gi_wp2
 gi_loopw [3] (fun i wr => ∃ m : Nat, m ≤ N ∧ i = .int .i64 ((m : Nat) - 1 : Int) ∧ J (dn N (N - m)) wr ∧ KpA A W wr) (fun i _ => (intOf i + 1).toNat)
 case atStart => exact ⟨N, Nat.le_refl _, by simp, by rw [Nat.sub_self]; exact h0, KpA.refl _ _⟩
 case round =>
  obtain ⟨m, hm, rfl, hJs, hk⟩ := hrel
  have c1 := HC.out wr hk
  by_cases hlt : 0 < m
  ·obtain ⟨p, hp⟩ : ∃ p, m - 1 = p := ⟨_, rfl⟩
   have e1 : ((m : Nat) : Int) - 1 = ((p : Nat) : Int) := by omega
   have hpN : p < N := by omega
   have hx := HV.out wr hk p hpN
   obtain ⟨fn, tmps, assign, body, hy, hR⟩ := hY _ ⟨p, hpN⟩ wr hJs (by rw [dn_len (by omega)]; omega)
   dsimp only at hy
   have HD := Lib.hid (show dn N (N - m) ++ [⟨p, hpN⟩] = dn N (N - p) by
    have e2 : N - p = (N - m) + 1 := by omega
    rw [e2, dn_succ (by omega)]
    congr 2
    exact Subtype.ext (by show p = N - 1 - (N - m); omega))
   rw [HD.out] at hR
   have hpi : ((p : Nat) : Int) < ((N : Nat) : Int) := by omega
   obtain ⟨b, off, rfl, y0⟩ := hx
   rw [e1]
   clear hp hlt e1
   gi_wp2
   refine hR.mono ?_
   rintro e W3 (⟨rfl, hJ3, hk3⟩ | ⟨rfl, hJx3⟩)
   ·gi_wp2
    go_roundw
    case rel => exact ⟨p, by omega, rfl, hJ3, hk.trans hk3⟩
    case measure => (show ((p : Int) - 1 + 1).toNat < ((p : Int) + 1).toNat; omega)
   ·gi_wp2
    refine bodyPost_ret (results_none rfl _ _ _) rfl ?_
    exact ⟨⟨_, rfl⟩, .inr ⟨_, trivial, hJx3⟩⟩
  ·obtain rfl : m = 0 := by omega
   have e1 : ((0 : Nat) : Int) - 1 = -1 := by omega
   rw [e1]
   gi_wp2
   go_end0
   exact ⟨⟨_, rfl⟩, .inl ⟨_, rfl, by rw [Nat.sub_zero] at hJs; exact hJs⟩⟩
end Go.Proofs.YtdbgaccnejffpaaGreatDoor.Paths
