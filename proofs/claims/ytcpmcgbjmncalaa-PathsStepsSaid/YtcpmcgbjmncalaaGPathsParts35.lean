/-
  Ways that every program must know (stage 14). By an AI agent.
  append of one integer to a row of the call's own, and where the row then lies. By an AI agent.
-/
import Derived.Test.YtcpmcgbjmncalaaGPathsParts31
import Derived.Test.YtcpmcgbjmncalaaGPathsParts34
import Derived.Test.YtcpmcgbjmncalaaGPathsParts1
import Derived.Maps.AppendAt
namespace Go.Proofs.Ytcpmcgbjmncalaa.Paths
open Go.RowKit Go.Shelf Go.Proofs.Ytcpmcgbjmncalaa.Ints Go.Proofs.Ytcpmcgbjmncalaa.Mem Go.Proofs.Ytcpmcgbjmncalaa.Src Go.Proofs.Ytcpmcgbjmncalaa.Tree Go.Proofs.Ytcpmcgbjmncalaa.BitsWalks Go.Proofs.Ytcpmcgbjmncalaa.RdW Go.Proofs.Ytcpmcgbjmncalaa.Words

/-- A step, and it any number of times. -/
def awakeL : List Nd := [⟨18, ⟨#[]⟩, 0, 0, []⟩, ⟨22, ⟨#[]⟩, 0, 0, [0]⟩]
theorem awake_reg : regL awakeL = true := by kernel_rfl
theorem awake_places : placesR awakeL 18 = [0] := by kernel_rfl
theorem awake_tab : (tableR awakeL (fun _ => []) 2 0 0, tableR awakeL (fun _ => []) 2 0 1, tableR awakeL (fun _ => []) 2 1 0, tableR awakeL (fun _ => []) 2 1 1) = (true, true, false, true) := by kernel_rfl
theorem nils_rd (w : World) (g n m : Nat) (h : w.ownsRow 0 35 1 (.slice (some ⟨g, 0, none⟩) n m) n (List.replicate n (.slice none 0 0))) : RdV w (some ⟨g, 0, none⟩) n (fun _ => []) := fun _ =>
  ⟨g, 0, rfl, fun i hi => ⟨none, 0, 0, by
    have := h.cells (g := g) rfl i (.slice none 0 0) (by rw [List.getElem?_replicate, if_pos hi])
    rwa [Addr.add_lit] at this, ⟨by rfl, fun j hj => by omega, fun h0 => by omega⟩, Nat.le_refl _, by decide⟩⟩
set_option maxHeartbeats 8000000 in
set_option maxRecDepth 100000 in
theorem lawAwake (w : World) : Calls Try.prog 8 #[] w fun e w' => e = .returned (.bool true) ∧ Below w.heap.size w w' := by
  obtain ⟨i0, hi, hz0, hz1, hz2⟩ := info_parts infoWs
  have b1 : i0.bytes * 2 ≤ 281474976710656 := by rw [hz2]; omega
  have b3 : 2 ≤ maxLen := by decide
  have h13 : Below w.heap.size w (w.alloc (.cells #[.int .i64 0] 3)) := (Below.refl _ _).alloc (Nat.le_refl _) _
  have hx3 := Blk.new w #[.int .i64 0] 3 _ rfl
  obtain ⟨w3, hw3⟩ : ∃ w3, w.alloc (.cells #[.int .i64 0] 3) = w3 := ⟨_, rfl⟩
  have hs3 : w3.heap.size = w.heap.size + 1 := by rw [← hw3]; simp
  rw [hw3] at h13 hx3
  have h34 : Below w3.heap.size w3 (w3.alloc (.cells #[.int .i64 18, .string { data := #[] }, .int .i64 0, .int .i64 0, .slice none 0 0, .int .i64 22, .string { data := #[] }, .int .i64 0, .int .i64 0, .slice (some ⟨w.heap.size, 0, none⟩) 1 1] 42)) := (Below.refl _ _).alloc (Nat.le_refl _) _
  have hx4 := Blk.new w3 #[.int .i64 18, .string { data := #[] }, .int .i64 0, .int .i64 0, .slice none 0 0, .int .i64 22, .string { data := #[] }, .int .i64 0, .int .i64 0, .slice (some ⟨w.heap.size, 0, none⟩) 1 1] 42 _ rfl
  obtain ⟨w4, hw4⟩ : ∃ w4, w3.alloc (.cells #[.int .i64 18, .string { data := #[] }, .int .i64 0, .int .i64 0, .slice none 0 0, .int .i64 22, .string { data := #[] }, .int .i64 0, .int .i64 0, .slice (some ⟨w.heap.size, 0, none⟩) 1 1] 42) = w4 := ⟨_, rfl⟩
  have hs4 : w4.heap.size = w3.heap.size + 1 := by rw [← hw4]; simp
  rw [hw4] at h34 hx4
  have hx3' := hx3.later h34
  have hN : Nodes Tree.Any w4 (some ⟨w.heap.size + 1, 0, none⟩) awakeL := fun _ => ⟨w.heap.size + 1, 0, rfl, fun j n hj => by
    rw [hs3] at hx4
    rcases Nat.lt_or_ge j 1 with h0 | h0
    · obtain rfl : j = 0 := by omega
      injection hj with hj
      subst hj
      exact ⟨hx4.cell 0 rfl, hx4.cell 1 rfl, hx4.cell 2 rfl, hx4.cell 3 rfl, by unfold Tree.small64; decide, by unfold Tree.small64; decide, by unfold Tree.small64; decide, by decide, none, 0, hx4.cell 4 rfl, Rd.nil _ _ _, Nat.le_refl _, by decide, trivial, fun a e => by cases e⟩
    · rcases Nat.lt_or_ge j 2 with h1 | h1
      · obtain rfl : j = 1 := by omega
        injection hj with hj
        subst hj
        refine ⟨hx4.cell 5 rfl, hx4.cell 6 rfl, hx4.cell 7 rfl, hx4.cell 8 rfl, by unfold Tree.small64; decide, by unfold Tree.small64; decide, by unfold Tree.small64; decide, by decide, some ⟨w.heap.size, 0, none⟩, 1, hx4.cell 9 rfl, ⟨rfl, fun q hq => ?_, fun _ => ⟨_, 0, rfl, fun q hq => ?_⟩⟩, Nat.le_refl _, by decide, trivial, fun a e _ => trivial⟩
        · obtain rfl : q = 0 := by have hq : q < 1 := hq; omega
          rfl
        · obtain rfl : q = 0 := by have hq : q < 1 := hq; omega
          exact hx3'.cell 0 rfl
      · rw [List.getElem?_eq_none (by exact h1)] at hj
        cases hj⟩
  have HN := Lib.hid hN
  have HB4 := Lib.hid (h13.trans (h34.mono h13.size))
  clear hN h13 h34 hx3 hx4 hx3'
  go_enter Try.func8, Try.ntmps8
  go_wp2_with (at_make; refine wpList_make_full _ rfl (.const (.int .i64 2)) (.const (.int .i64 2)) 30 rfl 0 35 i0 (.slice none 0 0) 1 Try.underlying30 hi hz0 hz1 .i64 .i64 _ _ 2 rfl rfl rfl rfl b1 b3 (Nat.zero_le _) ?_; intro w5 hmade hgr5; rw [made_slices] at hmade)
  have hb45 : Below w4.heap.size w4 w5 := ⟨hgr5.os, hgr5.tape, hgr5.output, hgr5.size, fun k hk => hgr5.block k hk (by simp)⟩
  have e4 : w4.heap.size = w.heap.size + 1 + 1 := by omega
  rw [e4] at hmade
  have HB5 := Lib.hid (HB4.out.trans (hb45.mono HB4.out.size))
  have HN5 := Lib.hid (HN.out.below hb45)
  refine (landReach (some ⟨w.heap.size + 1, 0, none⟩) (some ⟨w.heap.size + 1 + 1, 0, none⟩) 2 2 2 2 awakeL (fun _ => []) w5 rfl (Nat.le_refl _) (by decide) HN5.out (nils_rd w5 _ 2 2 hmade) (by decide)).mono ?_
  rw [gotR_yes awake_reg]
  rintro e w6 ⟨B, R, rfl, hT, hB6⟩
  obtain ⟨t00, t01, t10, t11⟩ : tableR awakeL (fun _ => []) 2 0 0 = true ∧ tableR awakeL (fun _ => []) 2 0 1 = true ∧ tableR awakeL (fun _ => []) 2 1 0 = false ∧ tableR awakeL (fun _ => []) 2 1 1 = true := by
    have := awake_tab
    injection this with a1 this
    injection this with a2 this
    injection this with a3 a4
    exact ⟨a1, a2, a3, a4⟩
  have o0 := hT.outer (show 0 < 2 by decide)
  have o1 := hT.outer (show 1 < 2 by decide)
  have i00 := hT.inner (i := 0) (j := 0) (by decide) (by decide)
  have i01 := hT.inner (i := 0) (j := 1) (by decide) (by decide)
  have i10 := hT.inner (i := 1) (j := 0) (by decide) (by decide)
  have i11 := hT.inner (i := 1) (j := 1) (by decide) (by decide)
  rw [t00] at i00
  rw [t01] at i01
  rw [t10] at i10
  rw [t11] at i11
  have HST := Lib.hid (landSteps (some ⟨w.heap.size + 1, 0, none⟩) 2 2 awakeL w6 rfl (by decide) (HN5.out.below hB6))
  have HB6 := Lib.hid (HB5.out.trans (hB6.mono HB5.out.size))
  rw [awake_places] at HST
  clear hT hmade hgr5 hb45 hB6 t00 t01 t10 t11
  go_wp2_with (go_at_call 13; refine HST.out.mono ?_; rintro e w9 ⟨Ao, co, rfl, -, -, -, hb9, -⟩)
  go_ret
  exact ⟨rfl, HB6.out.trans (hb9.mono HB6.out.size)⟩
end Go.Proofs.Ytcpmcgbjmncalaa.Paths

namespace Go.Proofs.Ytcpmcgbjmncalaa.Ints
open Go.RowKit

theorem own_weaken {w : World} {base base' : Nat} {e : TypeId} {size : Nat} {v : Value} {n : Nat} {xs : List Value} (h : w.ownsRow base e size v n xs) (hb : base' ≤ base) : w.ownsRow base' e size v n xs := by
  refine ⟨h.1, ?_⟩
  rcases h.2 with h2 | ⟨g, cap, cur, h3, h4, h5⟩
  · exact .inl h2
  · exact .inr ⟨g, cap, cur, h3, Nat.le_trans hb h4, h5⟩

section
variable {P : Program} {w : World}
/-- 'append(v, y)': v is the call's own row of integers; y lies in a new block. -/
theorem wpList_append_int1 {ops : Array Oper} {rest : List Oper} {o : Oper} {a : Act} {Q : Exit → Act → World → Prop} (hgd : o.guard = none) (s x : Operand) (t : TypeId)
    (ho : o.op = .call { callee := .builtin .append, args := #[s, x], argTypes := #[t, t] }) (k : IntKind) (base : Nat) (e : TypeId) (i : TypeInfo)
    (ht : P.underlying t = some (.slice e)) (hi : P.info? e = some i) (hz : i.zero = some (.int k 0)) (hsize : i.size = 1) (hby : i.bytes = 8)
    (v : Value) (n : Nat) (zs : List Int) (hs : a.eval s = v) (hown : w.ownsRow base e 1 v n (zs.map (Value.int k)))
    (y : Int) (T : TypeId) (cs : Array Value) (hcs : cs = #[.int k y]) (H : Nat) (hH : w.heap.size = H) (hx : a.eval x = .slice (some ⟨H, 0, none⟩) 1 1)
    (hl : n ≤ 4194304) (hbase : base ≤ w.heap.size)
    (h : ∀ v' w', w'.ownsRow base e 1 v' (n + 1) ((zs ++ [y]).map (Value.int k)) → (w.alloc (.cells cs T)).grownBy w' v.ownBlock → (v'.ownBlock = v.ownBlock ∨ v'.ownBlock = some (w.alloc (.cells cs T)).heap.size) → wpList P ops Q rest (a.put o.dst v') w') : wpList P ops Q (o :: rest) a (w.alloc (.cells cs T)) := by
  subst hcs
  subst hH
  refine wpList_plain hgd fun K hK => ?_
  obtain ⟨v', w', hrun, h1, h2, -, h4⟩ := run_append_own_at (P := P) (w.alloc (.cells #[.int k y] T)) base t o.type e i (.int k 0) 1 8 ht hi hz hsize hby rfl (by decide) v n _ (hown.alloc _) ⟨w.heap.size, 0, none⟩ 1 1 [.int k y] rfl (fun j u hu => by
      have hj : j = 0 := by
        rcases j with _ | j
        · rfl
        · simp at hu
      subst hj
      rw [show (⟨w.heap.size, 0, none⟩ : Addr).add 0 = ⟨w.heap.size, 0, none⟩ by unfold Addr.add; simp]
      rw [cell_of_row _ w.heap.size 0 _ T (0, 0) (heap_alloc_new w _)]
      simpa using hu) (fun u hu => by rw [List.mem_singleton.1 hu]; rfl) (by have : maxLen = 9223372036854775807 := rfl; omega) (by omega) (by simp; omega)
  unfold Oper.wp
  simp [execOp, ho, resolve, invoke, builtin, hs, hx, hrun, Result.andThen]
  exact hK _ _ (h v' w' (by rw [List.map_append]; exact h1) h2 h4)
end
end Go.Proofs.Ytcpmcgbjmncalaa.Ints
