/-
  The landed graphOf (stage 14). By an AI agent.
  append of one integer to a row of the call's own, and where the row then lies. By an AI agent.
-/
import Derived.Test.YtdbgaccnejffpaaGreatDoorGSatDual9
import Derived.Test.YtdbgaccnejffpaaGreatDoorGSatDual1
import Derived.Maps.AppendAt
namespace Go.Proofs.YtdbgaccnejffpaaGreatDoor.Paths
open Go.RowKit Go.Proofs.YtdbgaccnejffpaaGreatDoor.Ints Go.Proofs.YtdbgaccnejffpaaGreatDoor.Mem Go.Proofs.YtdbgaccnejffpaaGreatDoor.Src Go.Proofs.YtdbgaccnejffpaaGreatDoor.Tree Go.Proofs.YtdbgaccnejffpaaGreatDoor.BitsWalks Go.Proofs.YtdbgaccnejffpaaGreatDoor.RdW
theorem landLay {w0 : World} {A : Option Addr} {n c : Nat} {l : List Nd} (h : LIn w0 A n c l) : ∀ (f i : Nat), i < n → i < f → regKind (kindN l i) = true → LayC w0 A n c i (reL l f i) := by
 intro f
 have hl := h.len
 induction f with
 | zero => intro i _ hf; omega
 | succ f ih =>
  intro i hi hf hr
  have hk : 18 ≤ kindN l i ∧ kindN l i ≤ 22 := of_decide_eq_true hr
  unfold reL
  by_cases e18 : kindN l i = 18
  ·rw [if_pos e18]
   exact lay_step h hi e18
  rw [if_neg e18]
  by_cases e19 : kindN l i = 19
  ·rw [if_pos e19]
   exact lay_test h hi e19 i
  rw [if_neg e19]
  have two : (kindN l i = 20 ∨ kindN l i = 21) → LayC w0 A n c (kidN l i 0) (reL l f (kidN l i 0)) ∧ LayC w0 A n c (kidN l i 1) (reL l f (kidN l i 1)) := fun e2 => by
   obtain ⟨nd, t, -, -, h3, h4, h5, h6, h7, h8, h9, h10⟩ := node_two h.may (show i < l.length by omega) (by rcases e2 with e2 | e2 <;> rw [e2] <;> decide)
   have hr : takesReg (kindN l i) = true := by rcases e2 with e2 | e2 <;> rw [e2] <;> decide
   rw [hr] at h9 h10
   rw [h6, h7]
   exact ⟨ih t (by omega) (by omega) h9, ih (i - 1) (by omega) (by omega) h10⟩
  by_cases e20 : kindN l i = 20
  ·rw [if_pos e20]
   exact lay_alt h hi e20 (two (.inl e20)).1 (two (.inl e20)).2
  rw [if_neg e20]
  by_cases e21 : kindN l i = 21
  ·rw [if_pos e21]
   exact lay_seq h hi e21 (two (.inr e21)).1 (two (.inr e21)).2
  rw [if_neg e21]
  have e22 : kindN l i = 22 := by omega
  rw [if_pos e22]
  obtain ⟨nd, -, -, h3, h4, h5, h6⟩ := node_one h.may (show i < l.length by omega) (by rw [e22]; decide)
  rw [show takesReg (kindN l i) = true by rw [e22]; decide] at h6
  refine lay_many h hi e22 ?_
  rw [h5]
  exact ih (i - 1) (by omega) (by omega) h6
theorem re_small {l : List Nd} (h : mayL l = true) : ∀ (f i : Nat), i < l.length → npl (reL l f i) + startL l i ≤ i + 1 ∧ nts (reL l f i) + startL l i ≤ i + 1 ∧ nst (reL l f i) + 2 * startL l i ≤ 2 * (i + 1) ∧ nsp (reL l f i) + startL l i ≤ i + 1 := by
 intro f
 induction f with
 | zero =>
  intro i hi
  have := start_within_self h hi
  simp only [reL, npl, nts, nst, nsp]
  omega
 | succ f ih =>
  intro i hi
  have hs := start_within_self h hi
  unfold reL
  by_cases e18 : kindN l i = 18
  ·rw [if_pos e18]
   simp only [npl, nts, nst, nsp]
   omega
  rw [if_neg e18]
  by_cases e19 : kindN l i = 19
  ·rw [if_pos e19]
   simp only [npl, nts, nst, nsp]
   omega
  rw [if_neg e19]
  have two : (kindN l i = 20 ∨ kindN l i = 21) → ∃ t, t + 1 < i ∧ startL l i = startL l t ∧ startL l (i - 1) = t + 1 ∧ kidN l i 0 = t ∧ kidN l i 1 = i - 1 ∧ startL l t ≤ t := fun e2 => by
   obtain ⟨nd, t, -, -, h3, h4, h5, h6, h7, h8, h9, h10⟩ := node_two h hi (by rcases e2 with e2 | e2 <;> rw [e2] <;> decide)
   exact ⟨t, h3, h4, h5, h6, h7, h8⟩
  by_cases e20 : kindN l i = 20
  ·rw [if_pos e20]
   obtain ⟨t, h3, h4, h5, h6, h7, h8⟩ := two (.inl e20)
   rw [h6, h7]
   have a := ih t (by omega)
   have b := ih (i - 1) (by omega)
   simp only [npl, nts, nst, nsp]
   omega
  rw [if_neg e20]
  by_cases e21 : kindN l i = 21
  ·rw [if_pos e21]
   obtain ⟨t, h3, h4, h5, h6, h7, h8⟩ := two (.inr e21)
   rw [h6, h7]
   have a := ih t (by omega)
   have b := ih (i - 1) (by omega)
   simp only [npl, nts, nst, nsp]
   omega
  rw [if_neg e21]
  by_cases e22 : kindN l i = 22
  ·rw [if_pos e22]
   obtain ⟨nd, -, -, h3, h4, h5, h6⟩ := node_one h hi (by rw [e22]; decide)
   rw [h5]
   have a := ih (i - 1) (by omega)
   simp only [npl, nts, nst, nsp]
   omega
  rw [if_neg e22]
  simp only [npl, nts, nst, nsp]
  omega
theorem reg_root {l : List Nd} (h : regL l = true) : mayL l = true ∧ 0 < l.length ∧ regKind (kindN l (l.length - 1)) = true := by
 have hm : mayL l = true := by unfold regL at h; rw [Bool.and_eq_true] at h; exact h.1
 have h0 := may_ne hm
 refine ⟨hm, h0, ?_⟩
 have h1 := reg_last hm
 rw [h] at h1
 rw [← kindAt_N, lastKind_at h0]
 exact h1.symm
def reOf (l : List Nd) : RE := reL l l.length (l.length - 1)
theorem reOf_small {l : List Nd} (h : regL l = true) (hn : l.length ≤ 1048576) : npl (reOf l) ≤ 1048576 ∧ nts (reOf l) ≤ 1048576 ∧ nst (reOf l) ≤ 2097152 ∧ nsp (reOf l) ≤ 1048576 := by
 obtain ⟨hm, h0, -⟩ := reg_root h
 have := re_small hm l.length (l.length - 1) (by omega)
 unfold reOf
 omega
set_option maxRecDepth 100000 in
set_option maxHeartbeats 2000000 in
theorem landGraphOf (A : Option Addr) (n c : Nat) (l : List Nd) (w : World) (hl : l.length = n) (hnc : n ≤ c) (hn : n ≤ 1048576) (h : Nodes Tree.Any w A l) (hr : regL l = true) :
  Calls Tryz.prog 91 #[.slice A n c] w fun e w' => ∃ gp, e = .returned (.pointer (some ⟨gp, 0, none⟩)) ∧ GMemE w' w.heap.size gp (2 + npl (reOf l)) (nts (reOf l)) (stE (reOf l) 0 1 2 0) (spE (reOf l) 0 1 2) ∧ Below w.heap.size w w' := by
 obtain ⟨hm, h0, hk⟩ := reg_root hr
 have hsm := reOf_small hr (by omega)
 have hal : Below w.heap.size w (w.alloc (.cells #[.int .i64 2, .int .i64 0, .slice none 0 0, .slice none 0 0] 125)) := (Below.refl _ _).alloc (Nat.le_refl _) _
 have hG : GMemE (w.alloc (.cells #[.int .i64 2, .int .i64 0, .slice none 0 0, .slice none 0 0] 125)) w.heap.size w.heap.size 2 0 [] [] :=
  ⟨_, _, Blk.new w _ _ _ rfl, Nat.le_refl _, hal.size, World.ownsRow_nil _ _ _ _, World.ownsRow_nil _ _ _ _, by simp [Value.ownBlock], by simp [Value.ownBlock], .inl rfl⟩
 have HL := Lib.hid (landLay (w0 := w) ⟨h, hm, hl, hnc, hn⟩ n (n - 1) (by omega) (by omega) (by rw [← hl]; exact hk) _ 0 1 w.heap.size 2 0 [] [] hal hG (by omega) (by omega) (by rw [← hl]; show 2 + npl (reOf l) ≤ _; omega) (by rw [← hl]; show 0 + nts (reOf l) ≤ _; omega) (by rw [← hl]; show 0 + nst (reOf l) ≤ _; omega) (by rw [← hl]; show 0 + nsp (reOf l) ≤ _; omega))
 have hRE : reL l n (n - 1) = reOf l := by rw [← hl]; rfl
 rw [hRE] at HL
 have e1 : ((n : Nat) : Int) - 1 = ((n - 1 : Nat) : Int) := by omega
 have HB := Lib.hid hal
 clear h hr hk hsm hG hRE hal
 go_enter Tryz.func91, Tryz.ntmps91
 go_wp2_with fail
 refine HL.out.mono ?_
 rintro e w1 ⟨rfl, hg, hb⟩
 go_wp2_with fail
 go_ret
 refine ⟨_, rfl, ?_, HB.out.trans hb⟩
 rwa [Nat.zero_add, List.nil_append, List.nil_append] at hg
end Go.Proofs.YtdbgaccnejffpaaGreatDoor.Paths

namespace Go.Proofs.YtdbgaccnejffpaaGreatDoor.Ints
open Go.RowKit
theorem own_weaken {w : World} {base base' : Nat} {e : TypeId} {size : Nat} {v : Value} {n : Nat} {xs : List Value} (h : w.ownsRow base e size v n xs) (hb : base' ≤ base) : w.ownsRow base' e size v n xs := by
 refine ⟨h.1, ?_⟩
 rcases h.2 with h2 | ⟨g, cap, cur, h3, h4, h5⟩
 ·exact .inl h2
 ·exact .inr ⟨g, cap, cur, h3, Nat.le_trans hb h4, h5⟩
section
variable {P : Program} {w : World}
theorem wpList_append_int1 {ops : Array Oper} {rest : List Oper} {o : Oper} {a : Act} {Q : Exit → Act → World → Prop} (hgd : o.guard = none) (s x : Operand) (t : TypeId)
  (ho : o.op = .call { callee := .builtin .append, args := #[s, x], argTypes := #[t, t] }) (k : IntKind) (base : Nat) (e : TypeId) (i : TypeInfo)
  (ht : P.underlying t = some (.slice e)) (hi : P.info? e = some i) (hz : i.zero = some (.int k 0)) (hsize : i.size = 1) (hby : i.bytes = 8)
  (v : Value) (n : Nat) (zs : List Int) (hs : a.eval s = v) (hown : w.ownsRow base e 1 v n (zs.map (Value.int k)))
  (y : Int) (T : TypeId) (cs : Array Value) (hcs : cs = #[.int k y]) (H : Nat) (hH : w.heap.size = H) (hx : a.eval x = .slice (some ⟨H, 0, none⟩) 1 1)
  (hl : n ≤ 4194304) (hbase : base ≤ w.heap.size)
  (h : ∀ v' w', w'.ownsRow base e 1 v' (n + 1) ((zs ++ [y]).map (Value.int k)) → (w.alloc (.cells cs T)).grownBy w' v.ownBlock → (v'.ownBlock = v.ownBlock ∨ v'.ownBlock = some (w.alloc (.cells cs T)).heap.size) → wpList P ops Q rest (a.put o.dst v') w') : wpList P ops Q (o :: rest) a (w.alloc (.cells cs T)) := by
 subst hcs
 subst hH
 refine wpList_plain hgd fun K hK => ?_
 obtain ⟨v', w', hrun, h1, h2, -, h4⟩ := run_append_own_at (P := P) (w.alloc (.cells #[.int k y] T)) base t o.type e i (.int k 0) 1 8 ht hi hz hsize hby rfl (by decide) v n _ (hown.alloc _) ⟨w.heap.size, 0, none⟩ 1 1 [.int k y] rfl (fun j u hu => by
   have hj : j = 0 := by
    rcases j with _ | j
    ·rfl
    ·simp at hu
   subst hj
   rw [show (⟨w.heap.size, 0, none⟩ : Addr).add 0 = ⟨w.heap.size, 0, none⟩ by unfold Addr.add; simp]
   rw [cell_of_row _ w.heap.size 0 _ T (0, 0) (heap_alloc_new w _)]
   simpa using hu) (fun u hu => by rw [List.mem_singleton.1 hu]; rfl) (by have : maxLen = 9223372036854775807 := rfl; omega) (by omega) (by simp; omega)
 unfold Oper.wp
 simp [execOp, ho, resolve, invoke, builtin, hs, hx, hrun, Result.andThen]
 exact hK _ _ (h v' w' (by rw [List.map_append]; exact h1) h2 h4)
end
end Go.Proofs.YtdbgaccnejffpaaGreatDoor.Ints
