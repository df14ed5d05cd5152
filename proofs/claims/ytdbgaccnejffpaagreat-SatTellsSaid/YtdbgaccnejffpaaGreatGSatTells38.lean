/-
  slices.Backward, ranged over: from the last element to the first (stage 14). By an AI agent. (Written by wip/tools/genback14.py.)
-/
import Derived.Test.YtdbgaccnejffpaaGreatGSatTells37
import Derived.RangeFuncBound
namespace Go.Proofs.YtdbgaccnejffpaaGreat.Paths
open Go.RowKit Go.Proofs.YtdbgaccnejffpaaGreat.Ints Go.Proofs.YtdbgaccnejffpaaGreat.Mem Go.Proofs.YtdbgaccnejffpaaGreat.Src Go.Proofs.YtdbgaccnejffpaaGreat.Tree Go.Proofs.YtdbgaccnejffpaaGreat.BitsWalks Go.Proofs.YtdbgaccnejffpaaGreat.RdW Go.Proofs.YtdbgaccnejffpaaGreat.Words Go.Proofs.YtdbgaccnejffpaaGreat.Round
attribute [local go_sem] Oper.semAt_some
abbrev Ix (N : Nat) := { i : Nat // i < N }
def dn (N : Nat) : Nat → List (Ix N)
 | 0 => []
 | k + 1 => if h : N - 1 - k < N then dn N k ++ [⟨N - 1 - k, h⟩] else dn N k
theorem dn_succ {N k : Nat} (h : N - 1 - k < N) : dn N (k + 1) = dn N k ++ [⟨N - 1 - k, h⟩] := by
 show (if h : N - 1 - k < N then dn N k ++ [⟨N - 1 - k, h⟩] else dn N k) = _
 rw [dif_pos h]
theorem dn_len {N : Nat} : ∀ {k : Nat}, k ≤ N → (dn N k).length = k
 | 0, _ => rfl
 | k + 1, h => by rw [dn_succ (by omega), List.length_append, dn_len (by omega)]; rfl
def KpA (A : Nat → Prop) (W W' : World) : Prop := ∀ q, A q → W'.heap[q]? = W.heap[q]?
theorem KpA.refl (A : Nat → Prop) (W : World) : KpA A W W := fun _ _ => rfl
theorem KpA.trans {A : Nat → Prop} {W W1 W2 : World} (h : KpA A W W1) (k : KpA A W1 W2) : KpA A W W2 := fun q hq => (k q hq).trans (h q hq)
theorem kpA_b {A : Nat → Prop} {w : World} (hA : ∀ q, A q → q < w.heap.size) (W : World) (l : Nat) (o o' : Obj) (hl : w.heap.size ≤ l) (_ : W.heap[l]? = some o) (_ : o.isCells = false) (_ : o.isWalk = false) : KpA A W (W.putObj l o') :=
 fun q hq => World.putObj_heap_other (by have := hA q hq; omega)
set_option maxRecDepth 100000 in
set_option maxHeartbeats 1000000 in
theorem backE (A : Option Addr) (n c : Nat) (w : World) : Calls Tryz.prog 142 #[.slice A n c] w fun e w' => e = .returned (.func (.func 145) #[] #[.pointer (some ⟨w.heap.size, 0, none⟩)]) ∧ w' = w.alloc (.cells #[.slice A n c] 148) := by
 have hmf : ∀ (fn : Fn) (first cap : Array Value) (w : World), (Instr.makeFunc fn first cap).run Tryz.prog w = .ok (.func fn first cap) w := fun _ _ _ _ => rfl
 go_enter Tryz.func142, Tryz.ntmps142
 go_wp2
 go_ret
 exact ⟨rfl, rfl⟩
set_option maxRecDepth 100000 in
set_option maxHeartbeats 4000000 in
theorem backE_stops (n : Nat) (hn : 1 ≤ n) (Bs : Nat) (A0 : Option Addr) (N c : Nat) (val : Nat → Value) (A : Nat → Prop) (w : World) (hB : A Bs) (hA : ∀ q, A q → q < w.heap.size) (hN : N ≤ 100000000) (hc : w.cell? ⟨Bs, 0, none⟩ = some (.slice A0 N c))
  (hv : ∀ W, KpA A w W → ∀ i, i < N → ∃ (b off : Nat) (x y z : Value), A0 = some ⟨b, off, none⟩ ∧ val i = .agg #[x, y, z] ∧ W.cell? ⟨b, off + i * 3, none⟩ = some x ∧ W.cell? ⟨b, off + i * 3 + 1, none⟩ = some y ∧ W.cell? ⟨b, off + i * 3 + 2, none⟩ = some z) :
  SeqStopsK Fence.wide n Tryz.prog 145 #[.pointer (some ⟨Bs, 0, none⟩)] (fun x : Ix N => #[Value.int .i64 ((x.1 : Nat) : Int), val x.1]) (KpA A) (fun ys => ys = dn N N) (fun _ => True) N w := fun l J Jx W hW _ _ hY h0 => by
 have hWA : KpA A w W := fun q hq => hW.block q (hA q hq)
 have HV := Lib.hid (fun W' (hk : KpA A W W') => hv W' (hWA.trans hk))
 have HC := Lib.hid (fun W' (hk : KpA A W W') => (World.cell?_of_block (w := w) (a := ⟨Bs, 0, none⟩) ((hWA.trans hk) Bs hB)).trans hc)
 have c0 := HC.out W (KpA.refl _ _)
 have hN' : ((N : Nat) : Int) ≤ 100000000 := by omega
 clear hv hc
 refine callsIn_of_wp Tryz.func145 rfl trivial ?_ rfl
 simp only [Tryz.ntmps145, List.size_toArray, List.length_cons, List.length_nil, Nat.reduceAdd, Nat.reduceSub, Array.replicate_succ, Array.replicate_zero, List.push_toArray, List.append_toArray, List.nil_append, List.cons_append]
 gi_wp2
 gi_loopw [3] (fun i wr => ∃ m : Nat, m ≤ N ∧ i = .int .i64 ((m : Nat) - 1 : Int) ∧ J (dn N (N - m)) wr ∧ KpA A W wr) (fun i _ => (intOf i + 1).toNat)
 case atStart => exact ⟨N, Nat.le_refl _, by simp, by rw [Nat.sub_self]; exact h0, KpA.refl _ _⟩
 case round =>
  obtain ⟨m, hm, rfl, hJs, hk⟩ := hrel
  have c1 := HC.out wr hk
  by_cases hlt : 0 < m
  ·obtain ⟨p, hp⟩ : ∃ p, m - 1 = p := ⟨_, rfl⟩
   have e1 : ((m : Nat) : Int) - 1 = ((p : Nat) : Int) := by omega
   have hpN : p < N := by omega
   have hx := HV.out wr hk p hpN
   obtain ⟨fn, tmps, assign, body, hy, hR⟩ := hY _ ⟨p, hpN⟩ wr hJs (by rw [dn_len (by omega)]; omega)
   dsimp only at hy
   have HD := Lib.hid (show dn N (N - m) ++ [⟨p, hpN⟩] = dn N (N - p) by
    have e2 : N - p = (N - m) + 1 := by omega
    rw [e2, dn_succ (by omega)]
    congr 2
    exact Subtype.ext (by show p = N - 1 - (N - m); omega))
   rw [HD.out] at hR
   have hpi : ((p : Nat) : Int) < ((N : Nat) : Int) := by omega
   obtain ⟨b, off, x, y, z, rfl, hval, y0, y1, y2⟩ := hx
   rw [hval] at hy
   rw [e1]
   clear hp hlt e1
   gi_wp2
   refine hR.mono ?_
   rintro e W3 (⟨rfl, hJ3, hk3⟩ | ⟨rfl, hJx3⟩)
   ·gi_wp2
    go_roundw
    case rel => exact ⟨p, by omega, rfl, hJ3, hk.trans hk3⟩
    case measure => (show ((p : Int) - 1 + 1).toNat < ((p : Int) + 1).toNat; omega)
   ·gi_wp2
    refine bodyPost_ret (results_none rfl _ _ _) rfl ?_
    exact ⟨⟨_, rfl⟩, .inr ⟨_, trivial, hJx3⟩⟩
  ·obtain rfl : m = 0 := by omega
   have e1 : ((0 : Nat) : Int) - 1 = -1 := by omega
   rw [e1]
   gi_wp2
   go_end0
   exact ⟨⟨_, rfl⟩, .inl ⟨_, rfl, by rw [Nat.sub_zero] at hJs; exact hJs⟩⟩
set_option maxRecDepth 100000 in
set_option maxHeartbeats 1000000 in
theorem backV (A : Option Addr) (n c : Nat) (w : World) : Calls Tryz.prog 133 #[.slice A n c] w fun e w' => e = .returned (.func (.func 140) #[] #[.pointer (some ⟨w.heap.size, 0, none⟩)]) ∧ w' = w.alloc (.cells #[.slice A n c] 86) := by
 have hmf : ∀ (fn : Fn) (first cap : Array Value) (w : World), (Instr.makeFunc fn first cap).run Tryz.prog w = .ok (.func fn first cap) w := fun _ _ _ _ => rfl
 go_enter Tryz.func133, Tryz.ntmps133
 go_wp2
 go_ret
 exact ⟨rfl, rfl⟩
set_option maxRecDepth 100000 in
set_option maxHeartbeats 4000000 in
theorem backV_stops (n : Nat) (hn : 1 ≤ n) (Bs : Nat) (A0 : Option Addr) (N c : Nat) (val : Nat → Value) (A : Nat → Prop) (w : World) (hB : A Bs) (hA : ∀ q, A q → q < w.heap.size) (hN : N ≤ 100000000) (hc : w.cell? ⟨Bs, 0, none⟩ = some (.slice A0 N c))
  (hv : ∀ W, KpA A w W → ∀ i, i < N → ∃ (b off : Nat), A0 = some ⟨b, off, none⟩ ∧ W.cell? ⟨b, off + i, none⟩ = some (val i)) :
  SeqStopsK Fence.wide n Tryz.prog 140 #[.pointer (some ⟨Bs, 0, none⟩)] (fun x : Ix N => #[Value.int .i64 ((x.1 : Nat) : Int), val x.1]) (KpA A) (fun ys => ys = dn N N) (fun _ => True) N w := fun l J Jx W hW _ _ hY h0 => by
 have hWA : KpA A w W := fun q hq => hW.block q (hA q hq)
 have HV := Lib.hid (fun W' (hk : KpA A W W') => hv W' (hWA.trans hk))
 have HC := Lib.hid (fun W' (hk : KpA A W W') => (World.cell?_of_block (w := w) (a := ⟨Bs, 0, none⟩) ((hWA.trans hk) Bs hB)).trans hc)
 have c0 := HC.out W (KpA.refl _ _)
 have hN' : ((N : Nat) : Int) ≤ 100000000 := by omega
 clear hv hc
 refine callsIn_of_wp Tryz.func140 rfl trivial ?_ rfl
 simp only [Tryz.ntmps140, List.size_toArray, List.length_cons, List.length_nil, Nat.reduceAdd, Nat.reduceSub, Array.replicate_succ, Array.replicate_zero, List.push_toArray, List.append_toArray, List.nil_append, List.cons_append]
 gi_wp2
 gi_loopw [3] (fun i wr => ∃ m : Nat, m ≤ N ∧ i = .int .i64 ((m : Nat) - 1 : Int) ∧ J (dn N (N - m)) wr ∧ KpA A W wr) (fun i _ => (intOf i + 1).toNat)
 case atStart => exact ⟨N, Nat.le_refl _, by simp, by rw [Nat.sub_self]; exact h0, KpA.refl _ _⟩
 case round =>
  obtain ⟨m, hm, rfl, hJs, hk⟩ := hrel
  have c1 := HC.out wr hk
  by_cases hlt : 0 < m
  ·obtain ⟨p, hp⟩ : ∃ p, m - 1 = p := ⟨_, rfl⟩
   have e1 : ((m : Nat) : Int) - 1 = ((p : Nat) : Int) := by omega
   have hpN : p < N := by omega
   have hx := HV.out wr hk p hpN
   obtain ⟨fn, tmps, assign, body, hy, hR⟩ := hY _ ⟨p, hpN⟩ wr hJs (by rw [dn_len (by omega)]; omega)
   dsimp only at hy
   have HD := Lib.hid (show dn N (N - m) ++ [⟨p, hpN⟩] = dn N (N - p) by
    have e2 : N - p = (N - m) + 1 := by omega
    rw [e2, dn_succ (by omega)]
    congr 2
    exact Subtype.ext (by show p = N - 1 - (N - m); omega))
   rw [HD.out] at hR
   have hpi : ((p : Nat) : Int) < ((N : Nat) : Int) := by omega
   obtain ⟨b, off, rfl, y0⟩ := hx
   rw [e1]
   clear hp hlt e1
   gi_wp2
   refine hR.mono ?_
   rintro e W3 (⟨rfl, hJ3, hk3⟩ | ⟨rfl, hJx3⟩)
   ·gi_wp2
    go_roundw
    case rel => exact ⟨p, by omega, rfl, hJ3, hk.trans hk3⟩
    case measure => (show ((p : Int) - 1 + 1).toNat < ((p : Int) + 1).toNat; omega)
   ·gi_wp2
    refine bodyPost_ret (results_none rfl _ _ _) rfl ?_
    exact ⟨⟨_, rfl⟩, .inr ⟨_, trivial, hJx3⟩⟩
  ·obtain rfl : m = 0 := by omega
   have e1 : ((0 : Nat) : Int) - 1 = -1 := by omega
   rw [e1]
   gi_wp2
   go_end0
   exact ⟨⟨_, rfl⟩, .inl ⟨_, rfl, by rw [Nat.sub_zero] at hJs; exact hJs⟩⟩
end Go.Proofs.YtdbgaccnejffpaaGreat.Paths
