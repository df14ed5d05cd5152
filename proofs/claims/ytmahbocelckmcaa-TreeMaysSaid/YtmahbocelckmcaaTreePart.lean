/-
  The walks of the reference's Start and Part. By an AI agent.
-/
import Derived.Test.YtmahbocelckmcaaNodeRow
import Derived.Test.YtmahbocelckmcaaTreeRef2
namespace Go.Proofs.Ytmahbocelckmcaa.Tree
open Go.RowKit Go.Proofs.Ytmahbocelckmcaa.Ints

/-- What a call leaves that hands back nodes, in blocks of S. -/
def GotNodes (S : Nat → Prop) (w : World) (m : List Nd) (e : Ending) (w' : World) : Prop :=
  ∃ A c, e = .returned (.slice A m.length c) ∧ Nodes S w' A m ∧ m.length ≤ c ∧ c ≤ maxLen ∧ Below w.heap.size w w'
theorem GotNodes.none0 {S : Nat → Prop} {w w' : World} (hb : Below w.heap.size w w') : GotNodes S w [] (.returned (.slice none 0 0)) w' := ⟨none, 0, rfl, Nodes.nil _ _ _, Nat.le_refl _, by decide, hb⟩
theorem GotNodes.own {S : Nat → Prop} {w w' : World} {base : Nat} {v : Value} {σ : List SNd} {m : List Nd} (h : OwnNodes S w' base v σ) (hm : σ.map (·.1) = m) (hS : ∀ b, base ≤ b → b < w'.heap.size → S b) (hb : Below w.heap.size w w') : GotNodes S w m (.returned v) w' := by
  obtain ⟨A, c, rfl, h2, h3, h4⟩ := h.reads hS
  subst hm
  exact ⟨A, c, by rw [List.length_map], h2, by rw [List.length_map]; exact h3, h4, hb⟩
theorem GotNodes.mono {S S' : Nat → Prop} {w : World} {m : List Nd} {e : Ending} {w' : World} (h : GotNodes S w m e w') (hs : ∀ b, b < w'.heap.size → S b → S' b) : GotNodes S' w m e w' := by
  obtain ⟨A, c, h1, h2, h3⟩ := h
  exact ⟨A, c, h1, h2.mono hs, h3⟩

/-! ### where a part begins -/
theorem start_stop {l : List Nd} {i f : Nat} {n : Nd} (h : l[i]? = some n) (hk : n.kids = []) : startF l f i = i := by
  cases f with
  | zero => rfl
  | succ f => rw [startF, h]; simp only [hk]
theorem start_go {l : List Nd} {i f t : Nat} {n : Nd} {r : List Int} (h : l[i]? = some n) (hk : n.kids = (t : Int) :: r) : startF l (f + 1) i = startF l f t := by
  rw [startF, h]; simp only [hk, Int.toNat_natCast]
theorem startF_fuel {l : List Nd} (hm : mayL l = true) : ∀ (i : Nat), i < l.length → ∀ f, i < f → startF l f i = startL l i := by
  intro i
  induction i using Nat.strongRecOn with
  | ind i ih =>
    intro hi f hf
    obtain ⟨f, rfl⟩ : ∃ g, f = g + 1 := ⟨f - 1, by omega⟩
    have hn := List.getElem?_eq_getElem hi
    cases hk : l[i].kids with
    | nil => unfold startL; rw [start_stop hn hk, start_stop hn hk]
    | cons k r =>
      have hb := may_kids hm hn k (by rw [hk]; exact List.mem_cons_self ..)
      obtain ⟨t, rfl⟩ := Int.eq_ofNat_of_zero_le hb.1
      unfold startL
      rw [start_go hn hk, start_go hn hk, ih t (by omega) (by omega) f (by omega), ih t (by omega) (by omega) i (by omega)]
theorem startL_stop {l : List Nd} {i : Nat} {n : Nd} (h : l[i]? = some n) (hk : n.kids = []) : startL l i = i := start_stop h hk
theorem startL_go {l : List Nd} (hm : mayL l = true) {i t : Nat} {n : Nd} {r : List Int} (h : l[i]? = some n) (hk : n.kids = (t : Int) :: r) : startL l i = startL l t := by
  have hb := may_kids hm h t (by rw [hk]; exact List.mem_cons_self ..)
  have hi := (List.getElem?_eq_some_iff.1 h).1
  unfold startL
  rw [start_go h hk]
  exact startF_fuel hm t (by omega) i (by omega)
theorem startL_le {l : List Nd} (hm : mayL l = true) : ∀ (i : Nat), i < l.length → startL l i ≤ i := by
  intro i
  induction i using Nat.strongRecOn with
  | ind i ih =>
    intro hi
    have hn := List.getElem?_eq_getElem hi
    cases hk : l[i].kids with
    | nil => rw [startL_stop hn hk]; exact Nat.le_refl _
    | cons k r =>
      have hb := may_kids hm hn k (by rw [hk]; exact List.mem_cons_self ..)
      obtain ⟨t, rfl⟩ := Int.eq_ofNat_of_zero_le hb.1
      rw [startL_go hm hn hk]
      have := ih t (by omega) (by omega)
      omega

set_option maxHeartbeats 4000000 in
theorem refStart (A : Option Addr) (n c i : Nat) (l : List Nd) (w : World) (hl : l.length = n) (hn : n ≤ 1048576) (hi : i < n) (hm : mayL l = true) (h : Nodes Any w A l) :
    Calls Try.prog 58 #[.slice A n c, .int .i64 (i : Int)] w fun e w' => e = .returned (.int .i64 (startL l i : Int)) ∧ w' = w := by
  have hni : (n : Int) ≤ 1048576 := by omega
  have HL := Lib.hid hl
  have HM := Lib.hid hm
  have HI := Lib.hid hi
  obtain ⟨b, off, e, hnodes⟩ := h (by omega)
  have HNS := Lib.hid hnodes
  subst e
  clear hl hn hm h hnodes hi
  go_enter Try.func58, Try.ntmps58
  go_wp2
  go_loop [1] (fun v => ∃ k : Nat, k < n ∧ v = .int .i64 k ∧ Hid (startL l i = startL l k)) (fun v => (intOf v).toNat)
  case atStart => exact ⟨i, HI.out, rfl, rfl⟩
  case round =>
    obtain ⟨k, hk, rfl, HS⟩ := hrel
    have hk' : (k : Int) < (n : Int) := by omega
    have hk0 : (0 : Int) ≤ (k : Int) := by omega
    obtain ⟨nd, hnd⟩ : ∃ nd, l[k]? = some nd := ⟨_, List.getElem?_eq_getElem (by have := HL.out; omega)⟩
    obtain ⟨x0, x1, x2, x3, s0, s2, s3, s1, K, cK, x4, hK, hKc, hcK, -, -⟩ := HNS.out k nd hnd
    rw [Nat.mul_comm 5 k] at x0 x1 x2 x3 x4
    have HND := Lib.hid hnd
    cases hkids : nd.kids with
    | nil =>
      rw [hkids] at x4
      simp only [List.length_nil] at x4
      have HR := Lib.hid (HS.out.trans (startL_stop HND.out hkids))
      clear hnd hK hKc hkids HS
      go_wp2
      go_ret
      exact ⟨by rw [HR.out]; rfl, rfl⟩
    | cons kk r =>
      have hb := may_kids HM.out HND.out kk (by rw [hkids]; exact List.mem_cons_self ..)
      obtain ⟨t, rfl⟩ := Int.eq_ofNat_of_zero_le hb.1
      have htk : t < k := by omega
      have HR := Lib.hid (HS.out.trans (startL_go HM.out HND.out hkids))
      obtain ⟨bk, ok, eK, hkc⟩ := hK.cell (by rw [hkids]; simp)
      have ck := hkc 0 (by rw [hkids]; simp)
      rw [hkids] at ck x4
      simp only [List.getElem?_cons_zero, Option.getD_some, Nat.add_zero, List.length_cons] at ck x4
      have hr0 : (0 : Int) < (r.length : Int) + 1 := by omega
      have hr1 : 0 < r.length + 1 := by omega
      subst eK
      clear hnd hK hKc hkids HS hkc hb
      go_wp2
      go_round
      case rel => exact ⟨t, by omega, rfl, HR⟩
      case measure => simp [intOf]; omega
end Go.Proofs.Ytmahbocelckmcaa.Tree
