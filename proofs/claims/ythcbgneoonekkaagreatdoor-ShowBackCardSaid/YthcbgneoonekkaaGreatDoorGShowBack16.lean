/-
  The walk of the landed Text. By an AI agent.
  How deep a formula's text is nested, in plain lists. By an AI agent.
  append of one integer to a row of the call's own, and where the row then lies. By an AI agent.
-/
import Derived.Test.YthcbgneoonekkaaGreatDoorGShowBack12
import Derived.Test.YthcbgneoonekkaaGreatDoorGShowBack15
import Derived.Deep.LoopGhost
import Derived.Laws.OwnMore
import Derived.Test.YthcbgneoonekkaaGreatDoorGShowBack7
import Derived.Test.YthcbgneoonekkaaGreatDoorGShowBack1
import Derived.Maps.AppendAt
namespace Go.Proofs.YthcbgneoonekkaaGreatDoor.Show
open Go.RowKit Go.Proofs.YthcbgneoonekkaaGreatDoor.Tree Go.Proofs.YthcbgneoonekkaaGreatDoor.Itoa Go.Proofs.YthcbgneoonekkaaGreatDoor.Ints
open Go.Proofs.YthcbgneoonekkaaGreatDoor.Parse (Blk Blk.new own_take own_form8)

/-- A piece in a block of its own. -/
def PBox (w : World) (g : Nat) (p : Pc) : Prop := w.heap[g]? = some (.cells #[.string (Lex.bytes p.1), .int .i64 p.2] 50 (0, 0))
theorem PBox.cells {w : World} {g : Nat} {p : Pc} (h : PBox w g p) : w.cell? ⟨g, 0, none⟩ = some (.string (Lex.bytes p.1)) ∧ w.cell? ⟨g, 1, none⟩ = some (.int .i64 p.2) :=
  ⟨by rw [Lib.cell_of_heap h]; rfl, by rw [Lib.cell_of_heap h]; rfl⟩
theorem PBox.made (w : World) (x y : Value) (p : Pc) : PBox (((w.alloc (.cells #[x, y] 50)).setCell ⟨w.heap.size, 0, none⟩ (.string (Lex.bytes p.1))).setCell ⟨w.heap.size, 1, none⟩ (.int .i64 p.2)) w.heap.size p := by
  have h : (w.alloc (.cells #[x, y] 50)).heap[w.heap.size]? = some (.cells #[x, y] 50 (0, 0)) := heap_alloc_new w _
  unfold PBox World.setCell
  rw [Array.getElem?_modify, if_pos rfl, Array.getElem?_modify, if_pos rfl, h]
  rfl
theorem PBox.others {w w' : World} {g b : Nat} {p : Pc} (h : PBox w g p) (hk : Lib.OthersKept 5 (some b) w w') (hne : g ≠ b) : PBox w' g p :=
  hk g _ h (fun e => hne (Option.some.inj e)) (fun c fz e => by injection e with _ h2 _; exact absurd h2 (by decide))
/-- A row of pieces stands, whatever is written to a builder. -/
theorem row_others {w w' : World} {base b : Nat} {v : Value} {n : Nat} {xs : List Value} (h : w.ownsRow base 50 2 v n xs) (hk : Lib.OthersKept 5 (some b) w w') (hb : b < base) : w'.ownsRow base 50 2 v n xs := by
  refine ⟨h.1, ?_⟩
  rcases h.2 with hn | ⟨g, cap, cur, h1, h2, h3, h4⟩
  · exact Or.inl hn
  · exact Or.inr ⟨g, cap, cur, h1, h2, hk g _ h3 (fun e => by injection e; omega) (fun c fz e => by injection e with _ h2 _; exact absurd h2 (by decide)), h4⟩
theorem bld_later {B b : Nat} {l : List UInt8} {w w' : World} (h : Bld B b l w) (hb : Below w.heap.size w w') : Bld B b l w' := by
  have key : ∀ p, Lib.BuilderAt 48 5 B b p (Lib.byteCells l) w → Lib.BuilderAt 48 5 B b p (Lib.byteCells l) w' := fun p hp => by
    have hlt := hp.lt
    obtain ⟨hB, v, h1, h2, h3⟩ := hp
    exact ⟨hB, v, (hb.block b hlt).trans h1, below_row h2 hb, h3⟩
  exact h.imp (key _) (key _)
/-- A builder stands, whatever is put behind a row of pieces. -/
theorem bld_grown {B b base : Nat} {l : List UInt8} {w w' : World} {v : Value} {n : Nat} {xs : List Value} (h : Bld B b l w) (hg : w.grownBy w' v.ownBlock) (hr : w.ownsRow base 50 2 v n xs) : Bld B b l w' := by
  have hkind : ∀ g, v.ownBlock = some g → ∃ c fz, w.heap[g]? = some (.cells c 50 fz) := by
    intro g hg
    rcases hr.2 with ⟨rfl, -⟩ | ⟨g', cap, cur, rfl, -, hgg, -⟩
    · simp [Value.ownBlock] at hg
    · simp [Value.ownBlock] at hg
      subst hg
      exact ⟨cur, _, hgg⟩
  have key : ∀ p, Lib.BuilderAt 48 5 B b p (Lib.byteCells l) w → Lib.BuilderAt 48 5 B b p (Lib.byteCells l) w' := fun p hp => by
    have hlt := hp.lt
    obtain ⟨hB, u, h1, h2, h3⟩ := hp
    refine ⟨hB, u, (hg.block b hlt (fun e => ?_)).trans h1, h2.kept hg ?_, h3⟩
    · obtain ⟨c, fz, hc⟩ := hkind b e.symm
      rw [h1] at hc
      injection hc with hc
      injection hc with _ h2 _
      exact absurd h2 (by decide)
    · cases hu : u.ownBlock with
      | none => exact Or.inl rfl
      | some q =>
        refine Or.inr (fun e => ?_)
        obtain ⟨c, fz, hc⟩ := row_kind h2 q hu
        obtain ⟨c', fz', hc'⟩ := hkind q e.symm
        rw [hc] at hc'
        injection hc' with hc'
        injection hc' with _ h2 _
        exact absurd h2 (by decide)
  exact h.imp (key _) (key _)
theorem sl_form {w : World} {base : Nat} {e : TypeId} {size : Nat} {v : Value} {n : Nat} {xs : List Value} (h : w.ownsRow base e size v n xs) : ∃ A c, v = .slice A n c := by
  rcases h.2 with ⟨h1, h2⟩ | ⟨g, cap, cur, h1, -⟩
  · exact ⟨none, 0, by rw [h1, h2]⟩
  · exact ⟨_, _, h1⟩
theorem bld_lt {B b : Nat} {l : List UInt8} {w : World} (h : Bld B b l w) : b < w.heap.size := by
  rcases h with h | h
  · exact h.lt
  · exact h.lt
theorem byteCells_plus (a b : List UInt8) : Lib.byteCells a ++ Lib.strCells (Lex.bytes b) = Lib.byteCells (a ++ b) := by
  simp [Lib.byteCells, Lib.strCells, Lex.bytes]

set_option maxHeartbeats 40000000 in
set_option maxRecDepth 100000 in
theorem landText (A : Option Addr) (n c : Nat) (l : List Nd) (w : World) (hl : l.length = n) (hn : n ≤ 1048576) (h : Nodes Any w A l) (hT : Tabs w) :
    Calls Tryz.prog 8 #[.slice A n c] w fun e w' => e = .returned (.string (Lex.bytes (textL l))) ∧ Below w.heap.size w w' := by
  have hni : (n : Int) ≤ 1048576 := by omega
  have hM := fun W (hb : Below w.heap.size w W) => landMay A n c l W hl hn (h.below hb)
  have HL := Lib.hid hl
  have HD := Lib.hid h
  have HN := Lib.hid hn
  have HTB := Lib.hid (fun W (hb : Below w.heap.size w W) => hT.later hb)
  clear hl hn h hT
  rcases hm : mayL l
  · have HR := Lib.hid (show textL l = [] by unfold textL; rw [hm]; rfl)
    rw [hm] at hM
    have HM := Lib.hid hM
    clear hM hm
    go_enter Tryz.func8, Tryz.ntmps8
    go_wp2_with (go_at_call 15; refine (HM.out _ (Below.refl _ _)).mono ?_; rintro e w1 ⟨rfl, hb1⟩)
    refine bodyPost_ret (v := .string { data := #[] }) (by simp [results, Tryz.results8, go_sem]) rfl ?_
    exact ⟨by rw [HR.out]; rfl, hb1⟩
  · have h0 := may_ne hm
    have hn0 : 0 < n := by rw [← HL.out]; exact h0
    have HR := Lib.hid (textL_eq hm)
    have HLEN := Lib.hid (textL_len hm)
    have HMY := Lib.hid hm
    rw [hm] at hM
    have HM := Lib.hid hM
    have hn1 : (1 : Int) ≤ (n : Int) := by omega
    have hnn : (0 : Int) ≤ (n : Int) := by omega
    clear hM hm h0
    go_enter Tryz.func8, Tryz.ntmps8
    go_wp2_with (go_at_call 15; refine (HM.out _ (Below.refl _ _)).mono ?_; rintro e w1 ⟨rfl, hb1⟩)
    have hw1 : w.heap.size ≤ w1.heap.size := hb1.size
    have HB1 := Lib.hid hb1
    clear hb1
    obtain ⟨b, hb⟩ : ∃ b, w1.heap.size = b := ⟨_, rfl⟩
    have HBL0 := Lib.hid (show Bld b b [] ((w1.alloc (.cells #[.pointer none, .slice none 0 0] 48)).alloc (.cells #[.string { data := #[] }, .int .i64 ((n : Int) - 1)] 50)) by
      have h1 := Lib.fresh_isBuilder 48 5 w1
      rw [hb] at h1
      exact bld_later h1 ((Below.refl _ _).alloc (Nat.le_refl _) _))
    have HRO0 := Lib.hid (show ((w1.alloc (.cells #[.pointer none, .slice none 0 0] 48)).alloc (.cells #[.string { data := #[] }, .int .i64 ((n : Int) - 1)] 50)).ownsRow (b + 1) 50 2 (.slice (some ⟨b + 1, 0, none⟩) 1 1) 1 (rowP [([], ((n - 1 : Nat) : Int))]) by
      have hsz : (w1.alloc (.cells #[.pointer none, .slice none 0 0] 48)).heap.size = b + 1 := by simp [hb]
      have h1 := World.ownsRow_lit (base := b + 1) (size := 2) (e := 50) (w1.alloc (.cells #[.pointer none, .slice none 0 0] 48)) #[.string { data := #[] }, .int .i64 ((n : Int) - 1)] 1 (by rw [hsz]; exact Nat.le_refl _) (by decide) rfl
      rw [hsz] at h1
      have e : ((n - 1 : Nat) : Int) = (n : Int) - 1 := by omega
      rw [e]
      exact h1)
    have HB2 := Lib.hid ((HB1.out.alloc hw1 (.cells #[.pointer none, .slice none 0 0] 48)).alloc (by simp; omega) (.cells #[.string { data := #[] }, .int .i64 ((n : Int) - 1)] 50))
    have hwb : w.heap.size ≤ b := by omega
    have HWB := Lib.hid hwb
    rw [hb]
    clear hw1 hb
    go_loopg [4] (3 * n + 1) (fun k v wr => ∃ (todo : List Pc) (bs : List UInt8), Hid (wtAll l todo ≤ k) ∧ Hid (wtAll l todo ≤ 3 * n + 1) ∧ Hid (∀ p ∈ todo, GoodP n p) ∧ Hid (bs ++ outAll l todo = textL l) ∧ Hid (Bld b b bs wr) ∧ Hid (wr.ownsRow (b + 1) 50 2 v todo.length (rowP todo)) ∧ Hid (Below w.heap.size w wr))
    case atStart =>
      have hst := start_le HMY.out (i := n - 1) (by have := HL.out; omega)
      refine ⟨[([], ((n - 1 : Nat) : Int))], [], ?_, ?_, ?_, ?_, HBL0.out, HRO0.out, HB2.out⟩
      · show wt l _ + 0 ≤ _
        rw [wt_node]; omega
      · show wt l _ + 0 ≤ _
        rw [wt_node]; omega
      · intro p hp
        rw [List.mem_singleton.1 hp]
        exact Or.inr ⟨n - 1, rfl, by omega⟩
      · show outAll l ([] ++ [([], ((n - 1 : Nat) : Int))]) = _
        rw [outAll_pop, outX_node, HR.out, HL.out]
        show txt l (n - 1) ++ [] = _
        rw [List.append_nil]
    case round =>
      obtain ⟨todo, bs, HW1, HW2, HG, HOUT, HBL, HRW, HB⟩ := hrel
      have hlw := len_wt l todo
      have hbw := bld_lt HBL.out
      rcases List.eq_nil_or_concat todo with rfl | ⟨ts, p, rfl⟩
      · have hr0 := HRW.out
        rw [List.length_nil] at hr0
        obtain ⟨A0, c0, rfl⟩ := sl_form hr0
        clear hr0
        have HFIN := Lib.hid (show bs = textL l by have := HOUT.out; rw [← this]; show bs = bs ++ []; rw [List.append_nil])
        clear hlw
        go_wp2_with (go_at_call 19; go_loud (refine (Tryz.Builder_String_any b b bs _ HBL.out (Nat.le_of_lt hbw)).mono ?_; rintro e w9 ⟨rfl, hb9⟩))
        refine bodyPost_ret (v := .string (Lex.bytes bs)) (by simp [results, Tryz.results8, go_sem]; rfl) rfl ?_
        exact ⟨by rw [HFIN.out], HB.out.trans (hb9.mono HWB.out)⟩
      · rw [List.concat_eq_append] at HW1 HW2 HG HOUT HRW hlw
        rw [List.length_append] at HRW hlw
        rw [List.length_singleton] at HRW hlw
        obtain ⟨L, hL⟩ : ∃ L, ts.length = L := ⟨_, rfl⟩
        rw [hL] at HRW hlw
        have HLL := Lib.hid hL
        obtain ⟨g, cp, rfl, hg1, hg2, hg3, hg4⟩ := own_form8 HRW.out (Nat.succ_pos L)
        have hLb : L ≤ 3 * n + 1 := by have := HW2.out; omega
        have hLi : (L : Int) ≤ 4194304 := by omega
        have hL0 : (0 : Int) ≤ (L : Int) := by omega
        obtain ⟨c0, c1⟩ := pc_cell HRW.out (by rw [List.length_append, hL]; rfl) (j := L) (t := p) (by rw [← hL]; simp)
        have HTK := Lib.hid (own_take HRW.out (Nat.le_succ L) (by rw [← rowP_take]; congr 1; rw [← hL, List.take_left']; rfl) : wr.ownsRow (b + 1) 50 2 (.slice (some ⟨g, 0, none⟩) L cp) L (rowP ts))
        have HPO := Lib.hid (show bs ++ (outX l p ++ outAll l ts) = textL l by have := HOUT.out; rw [outAll_pop] at this; exact this)
        have HWT := Lib.hid (show wt l p + wtAll l ts ≤ gk by have h9 := HW1.out; rw [wtAll_append, show wtAll l [p] = wt l p from Nat.add_zero _] at h9; omega)
        have HWT2 := Lib.hid (show wt l p + wtAll l ts ≤ 3 * n + 1 by have h9 := HW2.out; rw [wtAll_append, show wtAll l [p] = wt l p from Nat.add_zero _] at h9; omega)
        have HGT := Lib.hid (show ∀ q ∈ ts, GoodP n q from fun q hq => HG.out q (List.mem_append_left _ hq))
        have HGP := Lib.hid (show GoodP n p from HG.out p (List.mem_append_right _ (List.mem_singleton.2 rfl)))
        have hsz : p.1.length + bs.length ≤ 67108864 := by
          have h1 := congrArg List.length HPO.out
          rw [List.length_append, List.length_append] at h1
          have h2 := HLEN.out
          have h3 := HL.out
          unfold outX at h1
          rw [List.length_append] at h1
          omega
        have HSZ := Lib.hid hsz
        have hLc : (L : Int) ≤ (cp : Int) := by omega
        have hLc' : L ≤ cp := by omega
        clear hlw hL hg1 hg3 hg4 hsz HOUT HW1 HW2 HG
        have hgt : (0 : Int) < (L : Int) + 1 := by omega
        have htn1 : ((L : Int) + 1 - 1).toNat = L := by omega
        go_wp2_with fail
        have hba := (Below.refl wr.heap.size wr).alloc (Nat.le_refl _) (.cells #[.string (Lex.bytes p.1), .int .i64 p.2] 50)
        refine (landWrite b b (Lib.byteCells bs) (Lex.bytes p.1) _ (bld_later HBL.out hba) (by rw [bytes_size, Lib.byteCells_length]; have := HSZ.out; omega) (by simp; omega)).mono ?_
        rintro e w2 ⟨rfl, hbl2, hb2, hk2⟩
        rw [byteCells_plus] at hbl2
        have HBL2 := Lib.hid (show Bld b b (bs ++ p.1) w2 from hbl2)
        have HB2' := Lib.hid ((HB.out.alloc HB.out.size (.cells #[.string (Lex.bytes p.1), .int .i64 p.2] 50)).trans (hb2.mono HWB.out))
        have hpx : PBox w2 wr.heap.size p := PBox.others (show PBox (wr.alloc (.cells #[.string (Lex.bytes p.1), .int .i64 p.2] 50)) wr.heap.size p from heap_alloc_new wr _) hk2 (by omega)
        have HRW2 := Lib.hid (row_others (HTK.out.alloc (.cells #[.string (Lex.bytes p.1), .int .i64 p.2] 50)) hk2 (Nat.lt_succ_self b))
        obtain ⟨px0, px1⟩ := hpx.cells
        clear hba hbl2 hb2 hk2 hpx c0 c1
        rcases HGP.out with hk | ⟨t, hk, htn⟩
        · have HK := Lib.hid hk
          rw [hk] at px1
          clear hk
          go_wp2_with fail
          go_roundg (wtAll l ts)
          case measure =>
            have := HWT.out
            have h1 : 1 ≤ wt l p := by unfold wt; split <;> omega
            omega
          case rel =>
            refine ⟨ts, bs ++ p.1, Nat.le_refl _, by (show wtAll l ts ≤ 3 * n + 1); have := HWT2.out; omega, HGT.out, ?_, HBL2.out, by rw [HLL.out]; exact HRW2.out, HB2'.out⟩
            have h9 := HPO.out
            unfold outX at h9
            rw [if_pos HK.out, List.append_nil] at h9
            rw [List.append_assoc]
            exact h9
        · obtain ⟨nd, hnd⟩ : ∃ nd, l[t]? = some nd := ⟨_, List.getElem?_eq_getElem (by have := HL.out; omega)⟩
          obtain ⟨bb, off, e, hnodes⟩ := HD.out (by have := HL.out; omega)
          obtain ⟨x0, x1, x2, x3, s0, s2, s3, s1, K, cK, x4, hK, hKc, hcK, -, -⟩ := hnodes t nd hnd
          rw [Nat.mul_comm 5 t] at x0 x1 x2 x3 x4
          replace x0 := below_cell HB2'.out x0
          replace x1 := below_cell HB2'.out x1
          replace x2 := below_cell HB2'.out x2
          replace x3 := below_cell HB2'.out x3
          replace x4 := below_cell HB2'.out x4
          have hne : ((t : Int) == -1) = false := beq_eq_false_iff_ne.2 (by omega)
          have htn' : (t : Int) < (n : Int) := by omega
          have ht0 : (0 : Int) ≤ (t : Int) := by omega
          obtain ⟨m, hm⟩ : ∃ m, nd.kids.length = m := ⟨_, rfl⟩
          rw [hm] at x4 hK hKc
          have hm2 : m ≤ 2 := by rw [← hm]; exact may_arity HMY.out hnd
          have hf : fieldsB nd = true := (kids_at HMY.out hnd).1
          have hr : 1 ≤ nd.kind ∧ nd.kind ≤ 22 := by
            have hf' := hf
            unfold fieldsB at hf'
            rw [Bool.and_eq_true, kinds_range] at hf'
            exact hf'.1
          have HPC := Lib.hid (fun W (hb : Below w.heap.size w W) => landPieces (some ⟨bb, off, none⟩) n c l nd K m cK W HL.out HN.out (by rw [← e]; exact HD.out.below hb) (HTB.out W hb) hr hf hm hm2 (hK.below hb)
            (fun j hj => by obtain ⟨t', h1, h2, h3⟩ := kid_nat HMY.out hnd (j := j) (by rw [hm]; exact hj); exact ⟨t', h1, by omega, h3⟩))
          obtain ⟨hg0, hgw, hgl, hgl3⟩ := pieces_good HMY.out hnd
          have htxt := outs_text HMY.out hnd hr
          obtain ⟨ps, hps⟩ : ∃ ps, piecesL l nd = ps := ⟨_, rfl⟩
          rw [hps] at HPC hg0 hgw hgl hgl3 htxt
          rw [HL.out] at hg0
          have HG0 := Lib.hid hg0
          have HGW := Lib.hid hgw
          have HTX := Lib.hid htxt
          have HK := Lib.hid hk
          rw [hk] at px1
          subst e
          clear hnd hnodes hK hm hf hr hps hg0 hgw htxt hk
          go_wp2_with fail
          refine (HPC.out _ HB2'.out).mono ?_
          rintro e w3 ⟨v3, rfl, hrow3, hb3⟩
          obtain ⟨g3, c3, rfl, -, -, -, -⟩ := own_form8 hrow3 hgl
          have HB3 := Lib.hid hb3
          have HRW3 := Lib.hid hrow3
          have hs2 : w2.heap.size ≤ w3.heap.size := hb3.size
          clear hb3 hrow3 px0 px1 x0 x1 x2 x3 x4
          go_wp2_with fail
          refine (landReverse (w2.heap.size + 1) g3 c3 ps w3 HRW3.out hgl hgl3).mono ?_
          rintro e w4 ⟨rfl, hrow4, hb4⟩
          have HRW4 := Lib.hid hrow4
          have HB4 := Lib.hid (HB3.out.trans (hb4.mono (Nat.le_succ _)))
          have hs4 : w2.heap.size ≤ w4.heap.size := HB4.out.size
          clear hrow4 hb4
          have HRT := Lib.hid (below_row HRW2.out HB4.out)
          have HBL4 := Lib.hid (bld_later HBL2.out HB4.out)
          have hb2w := bld_lt HBL2.out
          go_wp2_with (at_builtin; go_loud (refine append_pcs rfl _ _ rfl (b + 1) (w2.heap.size + 1) _ ts rfl (by rw [HLL.out]; exact HRT.out) g3 c3 ps.reverse (by rw [List.length_reverse]; rfl) (by rw [List.length_reverse]; exact HRW4.out) (by rw [List.length_reverse, HLL.out]; have := HN.out; omega) (by omega) ?_; intro v5 w5 hown5 hgr5))
          have HBL5 := Lib.hid (bld_grown HBL4.out hgr5 HRT.out)
          have hfin : Below w.heap.size w w5 := (HB2'.out.trans (HB4.out.mono HB2'.out.size)).grown hgr5 (Nat.le_trans HB2'.out.size hs4) (fun z hz => by have := (HRT.out.lt z hz).1; have := HWB.out; omega)
          go_roundg (wtAll l (ts ++ ps.reverse))
          case measure =>
            have h1 := HWT.out
            have h2 := HGW.out
            rw [wtAll_append, wtAll_reverse]
            have h3 : wt l p = 1 + 3 * (t + 1 - startL l t) := by
              have : p = (p.1, (t : Int)) := Prod.ext rfl HK.out
              rw [this, wt_node]
            omega
          case rel =>
            refine ⟨ts ++ ps.reverse, bs ++ p.1, Nat.le_refl _, ?_, ?_, ?_, HBL5.out, hown5, hfin⟩
            · have h1 := HWT2.out
              have h2 := HGW.out
              have h3 : wt l p = 1 + 3 * (t + 1 - startL l t) := by
                have : p = (p.1, (t : Int)) := Prod.ext rfl HK.out
                rw [this, wt_node]
              show wtAll l (ts ++ ps.reverse) ≤ _
              rw [wtAll_append, wtAll_reverse]
              omega
            · intro q hq
              rcases List.mem_append.1 hq with hq | hq
              · exact HGT.out q hq
              · exact HG0.out q (List.mem_reverse.1 hq)
            · show (bs ++ p.1) ++ outAll l (ts ++ ps.reverse) = textL l
              rw [outAll_push, HTX.out]
              have h9 := HPO.out
              have e9 : outX l p = p.1 ++ txt l t := by
                have : p = (p.1, (t : Int)) := Prod.ext rfl HK.out
                rw [this, outX_node]
              rw [e9] at h9
              rw [List.append_assoc, ← List.append_assoc p.1]
              exact h9
end Go.Proofs.YthcbgneoonekkaaGreatDoor.Show

namespace Go.Proofs.YthcbgneoonekkaaGreatDoor.Show
open Go.Proofs.YthcbgneoonekkaaGreatDoor.Tree

/-! ### how deep a text is nested -/
def deeper (k : Int) : Bool := decide (k = 4 ∨ (8 ≤ k ∧ k ≤ 13) ∨ k = 16 ∨ k = 17 ∨ k = 19)
def kidN (ds : List Nat) (l : List Nd) (n : Nd) (w : Nat) (k : Int) : Nat := ds.getD k.toNat 0 + if bare n.kind w (kindAt l k) = true then 0 else 1
def kidsN (ds : List Nat) (l : List Nd) (n : Nd) : Nat → List Int → Nat
  | _, [] => 0
  | w, k :: ks => max (kidN ds l n w k) (kidsN ds l n (w + 1) ks)
def nodeN (n : Nd) (x : Nat) : Nat := x + if deeper n.kind = true then 1 else 0
def nestsF (l : List Nd) : List Nd → List Nat → List Nat
  | [], ds => ds
  | n :: r, ds => nestsF l r (ds ++ [nodeN n (kidsN ds l n 0 n.kids)])
def nestsTo (l : List Nd) (k : Nat) : List Nat := nestsF l (l.take k) []
def nst (l : List Nd) (i : Nat) : Nat := (nestsTo l (i + 1)).getD i 0
def nestL (l : List Nd) : Nat := if mayL l = true then nst l (l.length - 1) else 0
theorem nestsF_append (l a b : List Nd) : ∀ ds, nestsF l (a ++ b) ds = nestsF l b (nestsF l a ds) := by
  induction a with
  | nil => intro ds; rfl
  | cons n r ih => intro ds; exact ih _
theorem nestsTo_succ {l : List Nd} {k : Nat} {n : Nd} (h : l[k]? = some n) : nestsTo l (k + 1) = nestsTo l k ++ [nodeN n (kidsN (nestsTo l k) l n 0 n.kids)] := by
  have hk := (List.getElem?_eq_some_iff.1 h).1
  unfold nestsTo
  rw [List.take_succ_eq_append_getElem hk, nestsF_append, (List.getElem?_eq_some_iff.1 h).2]
  rfl
theorem nestsTo_len {l : List Nd} : ∀ {k : Nat}, k ≤ l.length → (nestsTo l k).length = k
  | 0, _ => rfl
  | k + 1, h => by
    obtain ⟨n, hn⟩ : ∃ n, l[k]? = some n := ⟨_, List.getElem?_eq_getElem (by omega)⟩
    rw [nestsTo_succ hn, List.length_append, nestsTo_len (k := k) (by omega)]
    rfl
theorem nestsTo_low {l : List Nd} {j : Nat} : ∀ {k : Nat}, j < k → k ≤ l.length → (nestsTo l k).getD j 0 = nst l j
  | 0, h, _ => absurd h (Nat.not_lt_zero _)
  | k + 1, h, hk => by
    by_cases e : j = k
    · rw [e]; rfl
    · obtain ⟨n, hn⟩ : ∃ n, l[k]? = some n := ⟨_, List.getElem?_eq_getElem (by omega)⟩
      rw [nestsTo_succ hn, getD_left (by rw [nestsTo_len (by omega)]; omega)]
      exact nestsTo_low (by omega) (by omega)
theorem nst_node {l : List Nd} {i : Nat} {n : Nd} (h : l[i]? = some n) : nst l i = nodeN n (kidsN (nestsTo l i) l n 0 n.kids) := by
  have hi := (List.getElem?_eq_some_iff.1 h).1
  unfold nst
  rw [nestsTo_succ h, getD_last (by rw [nestsTo_len (by omega)])]
/-- How deep a kid's text is. -/
def kidD (l : List Nd) (n : Nd) (w t : Nat) : Nat := nst l t + if bare n.kind w (kindAt l (t : Int)) = true then 0 else 1
theorem kidN_at {l : List Nd} {n : Nd} {w t k : Nat} (h : t < k) (hk : k ≤ l.length) : kidN (nestsTo l k) l n w (t : Int) = kidD l n w t := by
  unfold kidN kidD
  rw [Int.toNat_natCast, nestsTo_low h hk]

end Go.Proofs.YthcbgneoonekkaaGreatDoor.Show

namespace Go.Proofs.YthcbgneoonekkaaGreatDoor.Ints
open Go.RowKit

theorem own_weaken {w : World} {base base' : Nat} {e : TypeId} {size : Nat} {v : Value} {n : Nat} {xs : List Value} (h : w.ownsRow base e size v n xs) (hb : base' ≤ base) : w.ownsRow base' e size v n xs := by
  refine ⟨h.1, ?_⟩
  rcases h.2 with h2 | ⟨g, cap, cur, h3, h4, h5⟩
  · exact .inl h2
  · exact .inr ⟨g, cap, cur, h3, Nat.le_trans hb h4, h5⟩

section
variable {P : Program} {w : World}
/-- 'append(v, y)': v is the call's own row of integers; y lies in a new block. -/
theorem wpList_append_int1 {ops : Array Oper} {rest : List Oper} {o : Oper} {a : Act} {Q : Exit → Act → World → Prop} (hgd : o.guard = none) (s x : Operand) (t : TypeId)
    (ho : o.op = .call { callee := .builtin .append, args := #[s, x], argTypes := #[t, t] }) (k : IntKind) (base : Nat) (e : TypeId) (i : TypeInfo)
    (ht : P.underlying t = some (.slice e)) (hi : P.info? e = some i) (hz : i.zero = some (.int k 0)) (hsize : i.size = 1) (hby : i.bytes = 8)
    (v : Value) (n : Nat) (zs : List Int) (hs : a.eval s = v) (hown : w.ownsRow base e 1 v n (zs.map (Value.int k)))
    (y : Int) (T : TypeId) (cs : Array Value) (hcs : cs = #[.int k y]) (H : Nat) (hH : w.heap.size = H) (hx : a.eval x = .slice (some ⟨H, 0, none⟩) 1 1)
    (hl : n ≤ 4194304) (hbase : base ≤ w.heap.size)
    (h : ∀ v' w', w'.ownsRow base e 1 v' (n + 1) ((zs ++ [y]).map (Value.int k)) → (w.alloc (.cells cs T)).grownBy w' v.ownBlock → (v'.ownBlock = v.ownBlock ∨ v'.ownBlock = some (w.alloc (.cells cs T)).heap.size) → wpList P ops Q rest (a.put o.dst v') w') : wpList P ops Q (o :: rest) a (w.alloc (.cells cs T)) := by
  subst hcs
  subst hH
  refine wpList_plain hgd fun K hK => ?_
  obtain ⟨v', w', hrun, h1, h2, -, h4⟩ := run_append_own_at (P := P) (w.alloc (.cells #[.int k y] T)) base t o.type e i (.int k 0) 1 8 ht hi hz hsize hby rfl (by decide) v n _ (hown.alloc _) ⟨w.heap.size, 0, none⟩ 1 1 [.int k y] rfl (fun j u hu => by
      have hj : j = 0 := by
        rcases j with _ | j
        · rfl
        · simp at hu
      subst hj
      rw [show (⟨w.heap.size, 0, none⟩ : Addr).add 0 = ⟨w.heap.size, 0, none⟩ by unfold Addr.add; simp]
      rw [cell_of_row _ w.heap.size 0 _ T (0, 0) (heap_alloc_new w _)]
      simpa using hu) (fun u hu => by rw [List.mem_singleton.1 hu]; rfl) (by have : maxLen = 9223372036854775807 := rfl; omega) (by omega) (by simp; omega)
  unfold Oper.wp
  simp [execOp, ho, resolve, invoke, builtin, hs, hx, hrun, Result.andThen]
  exact hK _ _ (h v' w' (by rw [List.map_append]; exact h1) h2 h4)
/-- 'append(v, y)': v is the call's own row of one-cell values; y lies in a new block. -/
theorem wpList_append_one {ops : Array Oper} {rest : List Oper} {o : Oper} {a : Act} {Q : Exit → Act → World → Prop} (hgd : o.guard = none) (s x : Operand) (t : TypeId)
    (ho : o.op = .call { callee := .builtin .append, args := #[s, x], argTypes := #[t, t] }) (base : Nat) (e : TypeId) (i : TypeInfo) (z : Value) (nb : Nat)
    (ht : P.underlying t = some (.slice e)) (hi : P.info? e = some i) (hz : i.zero = some z) (hsize : i.size = 1) (hby : i.bytes = nb) (hzs : z.cells.size = 1) (hnb : nb ≤ 64)
    (v : Value) (n : Nat) (xs : List Value) (hs : a.eval s = v) (hown : w.ownsRow base e 1 v n xs)
    (y : Value) (hy : y.oneCell' = true) (T : TypeId) (cs : Array Value) (hcs : cs = #[y]) (H : Nat) (hH : w.heap.size = H) (hx : a.eval x = .slice (some ⟨H, 0, none⟩) 1 1)
    (hl : n ≤ 1048576) (hbase : base ≤ w.heap.size)
    (h : ∀ v' w', w'.ownsRow base e 1 v' (n + 1) (xs ++ [y]) → (w.alloc (.cells cs T)).grownBy w' v.ownBlock → (v'.ownBlock = v.ownBlock ∨ v'.ownBlock = some (w.alloc (.cells cs T)).heap.size) → wpList P ops Q rest (a.put o.dst v') w') : wpList P ops Q (o :: rest) a (w.alloc (.cells cs T)) := by
  subst hcs
  subst hH
  refine wpList_plain hgd fun K hK => ?_
  obtain ⟨v', w', hrun, h1, h2, -, h4⟩ := run_append_own_at (P := P) (w.alloc (.cells #[y] T)) base t o.type e i z 1 nb ht hi hz hsize hby hzs (by decide) v n _ (hown.alloc _) ⟨w.heap.size, 0, none⟩ 1 1 [y] rfl (fun j u hu => by
      have hj : j = 0 := by
        rcases j with _ | j
        · rfl
        · simp at hu
      subst hj
      rw [show (⟨w.heap.size, 0, none⟩ : Addr).add 0 = ⟨w.heap.size, 0, none⟩ by unfold Addr.add; simp]
      rw [cell_of_row _ w.heap.size 0 _ T (0, 0) (heap_alloc_new w _)]
      simpa using hu) (fun u hu => by rw [List.mem_singleton.1 hu]; exact hy) (by have : maxLen = 9223372036854775807 := rfl; omega) (by have : (n + 1) * nb ≤ 1048577 * 64 := Nat.mul_le_mul (by omega) hnb; omega) (by simp; omega)
  unfold Oper.wp
  simp [execOp, ho, resolve, invoke, builtin, hs, hx, hrun, Result.andThen]
  exact hK _ _ (h v' w' h1 h2 h4)
end
end Go.Proofs.YthcbgneoonekkaaGreatDoor.Ints
