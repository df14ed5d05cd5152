/-
  The walk of the reference's Join. By an AI agent.
-/
import Derived.Test.YtmahbocelckmcaaTreeOver
import Derived.Test.YtmahbocelckmcaaLists
namespace Go.Proofs.Ytmahbocelckmcaa.Tree
open Go.RowKit Go.Proofs.Ytmahbocelckmcaa.Ints

theorem from_any {B : Nat} {q : Nat} : From Any B q := Or.inl trivial
theorem GotNodes.any {S : Nat → Prop} {w : World} {m : List Nd} {e : Ending} {w' : World} (h : GotNodes S w m e w') : GotNodes Any w m e w' := h.mono fun _ _ _ => trivial
theorem join_bad {nd : Nd} {ls : List (List Nd)} (h : arity nd.kind ≠ (ls.length : Int) ∨ ls.all mayL = false) : joinL nd ls = [] := by
  unfold joinL
  rw [if_neg]
  rintro ⟨h1, h2⟩
  rcases h with h | h
  · exact h h1
  · rw [h] at h2; cases h2
theorem all_bad {ls : List (List Nd)} {j : Nat} {l : List Nd} (h : ls[j]? = some l) (hm : mayL l = false) : ls.all mayL = false := by
  rw [List.all_eq_false]
  exact ⟨l, List.mem_of_getElem? h, by rw [hm]; decide⟩
/-- The lists so far: the first one, and the last one behind it. -/
def headK (ls : List (List Nd)) (k : Nat) : List Nd := (ls.take k).headD []
def lastK (ls : List (List Nd)) (k : Nat) : List Nd := (ls.take k).tail.getLastD []

theorem arity_two (k : Int) : arity k ≤ 2 := by
  unfold arity
  split
  · decide
  · split
    · decide
    · split <;> decide
theorem headK_next {ls : List (List Nd)} {k : Nat} {l : List Nd} (h : ls[k]? = some l) : headK ls (k + 1) = if k = 0 then l else headK ls k := by
  obtain ⟨hk, rfl⟩ := List.getElem?_eq_some_iff.1 h
  unfold headK
  rw [List.take_succ_eq_append_getElem hk]
  cases k with
  | zero => simp
  | succ k =>
    rw [if_neg (by omega)]
    cases ls with
    | nil => simp at hk
    | cons x r => simp
theorem lastK_next {ls : List (List Nd)} {k : Nat} {l : List Nd} (h : ls[k]? = some l) : lastK ls (k + 1) = if k = 0 then [] else l := by
  obtain ⟨hk, rfl⟩ := List.getElem?_eq_some_iff.1 h
  unfold lastK
  rw [List.take_succ_eq_append_getElem hk]
  cases k with
  | zero => simp
  | succ k =>
    rw [if_neg (by omega)]
    cases ls with
    | nil => simp at hk
    | cons x r =>
      show (List.take k r ++ [(x :: r)[k + 1]]).getLastD [] = (x :: r)[k + 1]
      rw [List.getLastD_eq_getLast?, List.getLast?_concat]; rfl
theorem headK_all (ls : List (List Nd)) : headK ls ls.length = ls.headD [] := by unfold headK; rw [List.take_length]
theorem lastK_all (ls : List (List Nd)) : lastK ls ls.length = ls.tail.getLastD [] := by unfold lastK; rw [List.take_length]
theorem headK_mem {ls : List (List Nd)} {k : Nat} : headK ls k = [] ∨ headK ls k ∈ ls := by
  unfold headK
  cases h : ls.take k with
  | nil => exact Or.inl rfl
  | cons x r => exact Or.inr (List.mem_of_mem_take (by rw [h]; exact List.mem_cons_self ..))
theorem lastK_mem {ls : List (List Nd)} {k : Nat} : lastK ls k = [] ∨ lastK ls k ∈ ls := by
  unfold lastK
  cases h : (ls.take k).tail.getLast? with
  | none => exact Or.inl (by rw [List.getLastD_eq_getLast?, h]; rfl)
  | some x =>
    refine Or.inr ?_
    rw [List.getLastD_eq_getLast?, h]
    exact List.mem_of_mem_take (List.mem_of_mem_tail (List.mem_of_getLast? h))
theorem NodeOk.below {w w' : World} {n : Nd} {K : Option Addr} {c : Nat} (h : NodeOk w n K c) (hb : Below w.heap.size w w') : NodeOk w' n K c := by
  obtain ⟨h1, h2, h3, h4, h5, h6⟩ := h
  exact ⟨h1, h2, h3, h4, h5.below hb, h6⟩
theorem over_length (n : Nd) (a b : List Nd) : (overL n a b).length = a.length + b.length + 1 := by
  rw [over_eq, List.length_append, List.length_append, List.length_map]; rfl

set_option maxHeartbeats 8000000 in
set_option maxRecDepth 100000 in
theorem refJoin (nd0 : Nd) (K0 : Option Addr) (c0 : Nat) (A : Option Addr) (n c : Nat) (σ : List SL) (w : World) (hn : σ.length = n) (hn2 : n ≤ 1048576) (hlen : ∀ s ∈ σ, s.1.length ≤ 200000) (h0 : NodeOk w nd0 K0 c0) (hA : Lists Any w A σ) :
    Calls Try.prog 19 #[.agg #[.int .i64 nd0.kind, .string nd0.name, .int .i64 nd0.lo, .int .i64 nd0.hi, .slice K0 nd0.kids.length c0], .slice A n c] w (GotNodes Any w (joinL nd0 (σ.map (·.1)))) := by
  have hni : (n : Int) ≤ 1048576 := by omega
  have HN := Lib.hid hn
  have HLN := Lib.hid hlen
  have HOK := Lib.hid h0
  have HLS := Lib.hid hA
  have HA := Lib.hid (fun W => refArity nd0.kind W)
  obtain ⟨a, hae⟩ : ∃ a, arity nd0.kind = a := ⟨_, rfl⟩
  rw [hae] at HA
  have HAE := Lib.hid hae
  clear hn hlen h0 hA hae
  by_cases han : a = (n : Int)
  · have han' : (a != (n : Int)) = false := by rw [han]; simp
    have HAN := Lib.hid han
    clear han
    go_enter Try.func19, Try.ntmps19
    go_wp2_with (go_at_call 43; refine (HA.out _).mono ?_; rintro e w' ⟨rfl, rfl⟩)
    go_loopw [5, 6, 18] (fun va vb i wr => ∃ (k : Nat) (Ka Kb : Option Addr) (na nb ca cb : Nat), k ≤ n ∧ i = .int .i64 k ∧ Below (w.heap.size + 1) (w.alloc (.cells #[.int .i64 nd0.kind, .string nd0.name, .int .i64 nd0.lo, .int .i64 nd0.hi, .slice K0 nd0.kids.length c0] 33)) wr ∧
      va = .slice Ka na ca ∧ vb = .slice Kb nb cb ∧ Hid ((headK (σ.map (·.1)) k).length = na ∧ Nodes Any wr Ka (headK (σ.map (·.1)) k)) ∧ Hid ((lastK (σ.map (·.1)) k).length = nb ∧ Nodes Any wr Kb (lastK (σ.map (·.1)) k)) ∧ Hid (∀ (j : Nat) (s : SL), j < k → σ[j]? = some s → mayL s.1 = true)) (fun _ _ i _ => n - (intOf i).toNat)
    case atStart => exact ⟨0, none, none, 0, 0, 0, 0, Nat.zero_le _, rfl, Below.refl _ _, rfl, rfl, ⟨rfl, Nodes.nil _ _ _⟩, ⟨rfl, Nodes.nil _ _ _⟩, fun j s hj => absurd hj (by omega)⟩
    case round =>
      obtain ⟨k, Ka, Kb, na, nb, ca, cb, hk, rfl, hBx, rfl, rfl, HH, HT, HM⟩ := hrel
      have hszx : w.heap.size + 1 ≤ wr.heap.size := by have := hBx.size; simp at this; omega
      have hB : Below w.heap.size w wr := ((Below.refl _ _).alloc (Nat.le_refl _) _).trans (hBx.mono (Nat.le_succ _))
      have HB := Lib.hid hB
      have HBX := Lib.hid hBx
      clear hB hBx
      by_cases hkn : k < n
      · have hkn' : (k : Int) < (n : Int) := by omega
        obtain ⟨s, hs⟩ : ∃ s, σ[k]? = some s := ⟨_, List.getElem?_eq_getElem (by have := HN.out; omega)⟩
        obtain ⟨g, off, eA, -, hc⟩ := (HLS.out.below HB.out) (by have := HN.out; omega)
        obtain ⟨x0, hok, hsc, hcm⟩ := hc k s hs
        have hl := HLN.out s (List.mem_of_getElem? hs)
        obtain ⟨l, K, cK⟩ := s
        obtain ⟨m, hm⟩ : ∃ m, l.length = m := ⟨_, rfl⟩
        simp only at hl hok hsc hcm
        have x1 : wr.cell? ⟨g, off + k, none⟩ = some (.slice K m cK) := by rw [x0]; show some (Value.slice K l.length cK) = _; rw [hm]
        have HMY := Lib.hid (refMay K m cK l wr hm (by omega) hok)
        have HS := Lib.hid hs
        have HOKL := Lib.hid hok
        have HL := Lib.hid hm
        have hls : (σ.map (·.1))[k]? = some l := by rw [List.getElem?_map, hs]; rfl
        have HLS2 := Lib.hid hls
        subst eA
        rcases hmy : mayL l
        · rw [hmy] at HMY
          have HR := Lib.hid (join_bad (nd := nd0) (Or.inr (all_bad hls hmy)))
          clear hs hc x0 hok hm hls hmy hsc hcm hl
          go_wp2_with (go_at_call 26; refine HMY.out.mono ?_; rintro e w1 ⟨rfl, hb1⟩)
          go_ret
          rw [HR.out]
          exact GotNodes.none0 (HB.out.trans (hb1.mono HB.out.size))
        · rw [hmy] at HMY
          have HM2 := Lib.hid (show ∀ (j : Nat) (s : SL), j < k + 1 → σ[j]? = some s → mayL s.1 = true from fun j s hj hs' => by
            by_cases hjk : j = k
            · subst hjk; rw [Option.some.inj (hs'.symm.trans HS.out)]; exact hmy
            · exact HM.out j s (by omega) hs')
          clear hs hc x0 hok hm hls hmy hsc hcm hl
          by_cases hk0 : k = 0
          · have HH2 := Lib.hid (show headK (σ.map (·.1)) (k + 1) = l by rw [headK_next HLS2.out, if_pos hk0])
            have HT2 := Lib.hid (show lastK (σ.map (·.1)) (k + 1) = [] by rw [lastK_next HLS2.out, if_pos hk0])
            have HT3 := Lib.hid (show lastK (σ.map (·.1)) k = [] by rw [hk0]; rfl)
            have hnb0 : nb = 0 := by have := HT.out.1; rw [HT3.out] at this; simpa using this.symm
            have hk0' : ((k : Int) == 0) = true := by rw [hk0]; rfl
            have HK0 := Lib.hid hk0
            have HNB := Lib.hid hnb0
            clear hk0 hnb0
            go_wp2_with (go_at_call 26; refine HMY.out.mono ?_; rintro e w1 ⟨rfl, hb1⟩)
            go_roundw
            case rel => exact ⟨k + 1, K, Kb, m, nb, cK, cb, by omega, by go_num, HBX.out.trans (hb1.mono hszx), rfl, rfl, by rw [HH2.out]; exact ⟨HL.out, HOKL.out.below hb1⟩, by rw [HT2.out]; exact ⟨HNB.out.symm, Nodes.nil _ _ _⟩, HM2⟩
            case measure => simp [intOf]; omega
          · have HH2 := Lib.hid (show headK (σ.map (·.1)) (k + 1) = headK (σ.map (·.1)) k by rw [headK_next HLS2.out, if_neg hk0])
            have HT2 := Lib.hid (show lastK (σ.map (·.1)) (k + 1) = l by rw [lastK_next HLS2.out, if_neg hk0])
            have hk0' : ((k : Int) == 0) = false := beq_eq_false_iff_ne.2 (by omega)
            clear hk0
            go_wp2_with (go_at_call 26; refine HMY.out.mono ?_; rintro e w1 ⟨rfl, hb1⟩)
            go_roundw
            case rel => exact ⟨k + 1, Ka, K, na, m, ca, cK, by omega, by go_num, HBX.out.trans (hb1.mono hszx), rfl, rfl, by rw [HH2.out]; exact ⟨HH.out.1, HH.out.2.below hb1⟩, by rw [HT2.out]; exact ⟨HL.out, HOKL.out.below hb1⟩, HM2⟩
            case measure => simp [intOf]; omega
      · have e : k = n := by omega
        have hge : decide ((k : Int) < (n : Int)) = false := by simp; omega
        subst e
        have hall : (σ.map (·.1)).all mayL = true := by
          rw [List.all_eq_true]
          intro l hl
          obtain ⟨s, hs, rfl⟩ := List.mem_map.1 hl
          obtain ⟨j, hj, rfl⟩ := List.getElem_of_mem hs
          exact HM.out j _ (by have := HN.out; omega) (List.getElem?_eq_getElem hj)
        have hlm : (σ.map (·.1)).length = k := by rw [List.length_map, HN.out]
        have hjn : joinL nd0 (σ.map (·.1)) = if mayL (overL nd0 (headK (σ.map (·.1)) k) (lastK (σ.map (·.1)) k)) = true then overL nd0 (headK (σ.map (·.1)) k) (lastK (σ.map (·.1)) k) else [] := by
          unfold joinL
          rw [if_pos ⟨by rw [HAE.out, HAN.out, hlm], hall⟩, ← headK_all, ← lastK_all, hlm]
        have hmem : ∀ l, l = [] ∨ l ∈ σ.map (·.1) → l.length ≤ 200000 ∧ Movable l := fun l hl => by
          rcases hl with rfl | hl
          · exact ⟨by simp, movable_nil⟩
          · obtain ⟨s, hs, rfl⟩ := List.mem_map.1 hl
            have h1 := HLN.out s hs
            exact ⟨h1, movable_may (List.all_eq_true.1 hall _ hl) (by omega)⟩
        obtain ⟨ha1, -⟩ := hmem _ (headK_mem (k := k))
        obtain ⟨hb1, hb2⟩ := hmem _ (lastK_mem (k := k))
        obtain ⟨a', ha'⟩ : ∃ a', headK (σ.map (·.1)) k = a' := ⟨_, rfl⟩
        obtain ⟨b', hb'⟩ : ∃ b', lastK (σ.map (·.1)) k = b' := ⟨_, rfl⟩
        rw [ha'] at HH ha1 hjn
        rw [hb'] at HT hb1 hb2 hjn
        have hna : na ≤ 200000 := by rw [← HH.out.1]; exact ha1
        have hnb : nb ≤ 200000 := by rw [← HT.out.1]; exact hb1
        have HOV := Lib.hid (refOver nd0 K0 c0 Ka Kb na nb ca cb a' b' Any wr HH.out.1 HT.out.1 (by omega) (by omega) (HOK.out.below HB.out) HH.out.2 HT.out.2 hb2)
        have HOL := Lib.hid (show (overL nd0 a' b').length ≤ 1048576 by rw [over_length, HH.out.1, HT.out.1]; omega)
        have hbx := HBX.out.mono (show (w.alloc (.cells #[.int .i64 nd0.kind, .string nd0.name, .int .i64 nd0.lo, .int .i64 nd0.hi, .slice K0 nd0.kids.length c0] 33)).heap.size ≤ w.heap.size + 1 by simp)
        have hx0 := below_cell hbx (box_cell 0 (.int .i64 nd0.kind) rfl)
        have hx1 := below_cell hbx (box_cell 1 (.string nd0.name) rfl)
        have hx2 := below_cell hbx (box_cell 2 (.int .i64 nd0.lo) rfl)
        have hx3 := below_cell hbx (box_cell 3 (.int .i64 nd0.hi) rfl)
        have hx4 := below_cell hbx (box_cell 4 (.slice K0 nd0.kids.length c0) rfl)
        have HJN := Lib.hid hjn
        have HRM := Lib.hid (fun A' c' W (hh : Nodes Any W A' (overL nd0 a' b')) => refMay A' _ c' (overL nd0 a' b') W rfl HOL.out hh)
        clear hall hlm hjn hmem ha1 hb1 hb2 ha' hb' hbx
        rcases hmo : mayL (overL nd0 a' b')
        · rw [hmo] at HRM HJN
          have HR := Lib.hid (HJN.out.trans (if_neg (by decide)))
          clear hmo
          go_wp2_with (first
            | (go_at_call 44; refine HOV.out.mono ?_; rintro e w5 ⟨A5, c5, rfl, hnd5, -, -, hb5⟩)
            | (go_at_call 26; refine (HRM.out _ _ _ hnd5.any).mono ?_; rintro e w6 ⟨rfl, hb6⟩))
          go_ret
          rw [HR.out]
          exact GotNodes.none0 (HB.out.trans ((hb5.trans (hb6.mono hb5.size)).mono HB.out.size))
        · rw [hmo] at HRM HJN
          have HR := Lib.hid (HJN.out.trans (if_pos rfl))
          clear hmo
          go_wp2_with (first
            | (go_at_call 44; refine HOV.out.mono ?_; rintro e w5 ⟨A5, c5, rfl, hnd5, hc5, hm5, hb5⟩)
            | (go_at_call 26; refine (HRM.out _ _ _ hnd5.any).mono ?_; rintro e w6 ⟨rfl, hb6⟩))
          go_ret
          rw [HR.out]
          exact ⟨_, _, rfl, (hnd5.below hb6).any, hc5, hm5, HB.out.trans ((hb5.trans (hb6.mono hb5.size)).mono HB.out.size)⟩
  · have han' : (a != (n : Int)) = true := bne_iff_ne.2 han
    have HR := Lib.hid (join_bad (nd := nd0) (ls := σ.map (·.1)) (Or.inl (by rw [HAE.out, List.length_map, HN.out]; exact han)))
    clear han
    go_enter Try.func19, Try.ntmps19
    go_wp2_with (go_at_call 43; refine (HA.out _).mono ?_; rintro e w' ⟨rfl, rfl⟩)
    go_ret
    rw [HR.out]
    exact GotNodes.none0 ((Below.refl _ _).alloc (Nat.le_refl _) _)
end Go.Proofs.Ytmahbocelckmcaa.Tree
