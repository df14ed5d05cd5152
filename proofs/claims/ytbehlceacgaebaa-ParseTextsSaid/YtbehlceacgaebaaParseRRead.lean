/-
  All parts of the reference's reader, by the tokens that are left; its read, Parse and Regex. By an AI agent.
-/
import Derived.Test.YtbehlceacgaebaaParseRUn
import Derived.Test.YtbehlceacgaebaaParseRead
import Derived.Test.YtbehlceacgaebaaLexLex
namespace Go.Proofs.Ytbehlceacgaebaa.Parse
open Go.RowKit Go.Proofs.Ytbehlceacgaebaa.Ints Go.Proofs.Ytbehlceacgaebaa.Lex Go.Proofs.Ytbehlceacgaebaa.Tree

theorem bel_drewN (w : World) (n B : Nat) : Below B w (w.drewN n) := ⟨rfl, rfl, rfl, Nat.le_refl _, fun _ _ => rfl⟩
theorem refForm (n : Nat) (H : RowPart 0 n) : Part 18 (.row false 0) n := by
  intro Pr base g ts σ w h hlow hr hn hl
  have HT := Lib.hid (show Calls Try.prog 30 #[.pointer (some ⟨g, 0, none⟩), .int .i64 0] w (PartDone Pr base g ts (.row false 0) σ w) from H Pr base g ts σ w h hlow hr hn hl)
  clear h hlow hr hn hl
  go_enter Try.func18, Try.ntmps18
  go_wp2_with fail
  refine HT.out.mono ?_
  rintro e w1 ⟨a, σ1, rfl, hm, hf, hp⟩
  have HX := Lib.hid (And.intro hm (And.intro hf hp))
  clear hm hf hp
  go_wp2_with fail
  go_ret
  exact ⟨a, σ1, rfl, HX.out.1, HX.out.2.1, HX.out.2.2⟩
theorem ref_parts : ∀ n : Nat, Part 64 (.opd false) n ∧ Part 19 (.row true 0) n ∧ Part 18 (.row false 0) n := by
  intro n
  induction n using Nat.strongRecOn with
  | ind n ih =>
    have HU := fun m (hm : m < n) => (ih m hm).1
    have HG := fun m (hm : m < n) => (ih m hm).2.1
    have HF := fun m (hm : m < n) => (ih m hm).2.2
    have hun := refUn n HU (refPrim n HF HG)
    exact ⟨hun, refReg n (refSeq n (refRep n (refOne n HU HG))), refForm n (refRow0 n (refRow1 n (refRow2 n (tie_row n (refTie n hun)))))⟩

/-- What the reference's Parse and Regex leave; there are not many nodes. -/
def ParseGotS (w : World) (x : List Nd × Nat × Nat) (e : Ending) (w' : World) : Prop := ParseGot w x e w' ∧ x.1.length ≤ 2001
theorem ParseGotS.none {w w' : World} {x : List Nd × Nat × Nat} {p c : Nat} (hx : x = ([], p, c)) (hb : Below w.heap.size w w') : ParseGotS w x (.returned (.tuple #[.slice none 0 0, .int .i64 (p : Int), .int .i64 (c : Int)])) w' :=
  ⟨ParseGot.none hx hb, by rw [hx]; exact Nat.zero_le _⟩
def start0 (ts : List Tk) : RS := ⟨ts, [], 0, 0, 0, 0⟩
theorem ref_start {w : World} {tv : Value} {ts : List Tk} (h : Toks w tv ts) :
    RMemE (fun _ => False) (w.alloc (.cells #[tv, .int .i64 0, .slice none 0 0, .int .i64 0, .int .i64 0, .int .i64 0, .int .i64 0] 51)) w.heap.size w.heap.size ts (start0 ts) := by
  have hb : Below w.heap.size w (w.alloc (.cells #[tv, .int .i64 0, .slice none 0 0, .int .i64 0, .int .i64 0, .int .i64 0, .int .i64 0] 51)) := (Below.refl _ _).alloc (Nat.le_refl _) _
  have hblk := Blk.new w #[tv, .int .i64 0, .slice none 0 0, .int .i64 0, .int .i64 0, .int .i64 0, .int .i64 0] 51 _ rfl
  refine ⟨tv, .slice none 0 0, [], ?_, Nat.le_refl _, hb.size, h.keep hb, fun b hb' => ?_, List.suffix_refl _, OwnNodes.nil _ _ _, rfl, (fun e => by cases e), id, (fun b e => by cases e)⟩
  · have e : cellsR ts tv (.slice none 0 0) (start0 ts) = [tv, .int .i64 0, .slice none 0 0, .int .i64 0, .int .i64 0, .int .i64 0, .int .i64 0] := by
      unfold cellsR start0
      simp only
      rw [Nat.sub_self]
      rfl
    rw [e]
    exact hblk
  · obtain ⟨A, c, h1, h2, -⟩ := h
    rw [h1] at hb'
    cases A with
    | none => cases hb'
    | some a =>
      have hb' : some a.block = some b := hb'
      injection hb' with hb'
      rw [← hb']
      exact h2 a rfl
theorem start_ready {ts : List Tk} (h : GoodT ts) (hl : ts.length ≤ 2001) : Ready (start0 ts) :=
  ⟨fun _ => ⟨h, by show (0 : Int) ≤ 0; omega, by show (0 : Int) ≤ 40; omega, Nat.zero_le _⟩, by show (-2 : Int) ≤ 0 ∧ (0 : Int) ≤ 42; omega, by show 0 + ts.length ≤ 50000; omega⟩
/-- What the whole reader leaves. -/
theorem ref_out {g : Bool} {L : List UInt8} {ts : List Tk} {σ' : RS} {v : Int} (hc : (lexS L).2.2 = 0) (hts : (lexS L).1 = ts) (hG : GoodT ts) (hp : Post (.row g 0) (start0 ts) v σ') :
    (σ'.err = 0 ∧ GoodT σ'.rest ∧ σ'.nodes.length ≤ ts.length ∧ parseS g L = if kindOf σ'.rest = 0 then (σ'.nodes, 0, 0) else ([], posOf σ'.rest, 2)) ∨ (σ'.err ≠ 0 ∧ parseS g L = ([], σ'.wh, σ'.err)) := by
  have e : parseS g L = outM (allM g ts) := by unfold parseS; rw [if_neg (fun h => h hc), hts]
  rcases hp.now rfl with kd | kf
  · left
    refine ⟨kd.err, kd.good, by have h1 := kd.room; have h2 : σ'.nodes.length + σ'.rest.length ≤ 0 + ts.length := h1; omega, ?_⟩
    rw [e]
    exact sim_whole hG.allOk kd.d
  · right
    refine ⟨kf.err, ?_⟩
    rw [e]
    exact sim_whole hG.allOk kf.d
set_option maxHeartbeats 16000000 in
set_option maxRecDepth 100000 in
theorem refRead (s : ByteArray) (g : Bool) (w : World) (hs : s.size ≤ maxLen) :
    Calls Try.prog 12 #[.string s, .bool !g] w (ParseGotS w (parseS g s.data.toList)) := by
  have HX := Lib.hid ((refLex s w hs).mono fun e w' h => LexPost.got h)
  obtain ⟨L, hL⟩ : ∃ L, s.data.toList = L := ⟨_, rfl⟩
  rw [hL] at HX ⊢
  obtain ⟨ts, hts⟩ : ∃ ts, (lexS L).1 = ts := ⟨_, rfl⟩
  obtain ⟨p, hp⟩ : ∃ p, (lexS L).2.1 = p := ⟨_, rfl⟩
  obtain ⟨c, hc⟩ : ∃ c, (lexS L).2.2 = c := ⟨_, rfl⟩
  unfold LexGot at HX
  rw [hts, hp, hc] at HX
  by_cases hc0 : c = 0
  · subst hc0
    obtain ⟨hG, hlen⟩ := lexS_good hc
    rw [hts] at hG hlen
    have HG := Lib.hid hG
    have HLN := Lib.hid hlen
    have HOUT := Lib.hid (fun (σ' : RS) (v : Int) (hp : Post (.row g 0) (start0 ts) v σ') => ref_out hc hts hG hp)
    clear hs hL hts hp hc hG hlen
    go_enter Try.func12, Try.ntmps12
    go_wp2_with fail
    refine HX.out.mono ?_
    rintro e w1 ⟨v, rfl, ht, hb⟩
    obtain ⟨VA, vc, hv, -, -⟩ := id ht
    subst hv
    have HB := Lib.hid hb
    have HMEM := Lib.hid (ref_start ht)
    have HB2 := Lib.hid (hb.alloc hb.size (.cells #[.slice VA ts.length vc, .int .i64 0, .slice none 0 0, .int .i64 0, .int .i64 0, .int .i64 0, .int .i64 0] 51))
    have HBS := Lib.hid hb.size
    clear ht hb
    cases g
    · go_wp2_with fail
      refine ((ref_parts ts.length).2.2 _ _ _ ts (start0 ts) _ HMEM.out (fun b hb => hb.elim) (start_ready HG.out HLN.out) (fun _ => Nat.le_refl _) (by have := HLN.out; omega)).mono ?_
      rintro e w2 ⟨v, σ', rfl, hm, hf, hp⟩
      have HF2 := Lib.hid (HB2.out.trans (hf.below.mono HBS.out))
      have HM := Lib.hid hm
      rcases HOUT.out σ' v hp with ⟨he, hgd, hnl, hpe⟩ | ⟨he, hpe⟩
      · obtain ⟨t, r, hrest, -⟩ := hgd.split
        rw [hrest] at hpe
        have HPE := Lib.hid hpe
        have HNL := Lib.hid (show σ'.nodes.length ≤ 2001 by have := HLN.out; omega)
        clear hnl
        have HE := Lib.hid he
        have HRS := Lib.hid hrest
        obtain ⟨tv', lv, SN, hm'⟩ := hm
        obtain ⟨b, cc, j, htv, hj, hjl, d0, d1, d2, d3⟩ := hm'.tok hrest
        have c0 := hm'.blk.cell 0 rfl
        have c1 := hm'.blk.cell 1 rfl
        have c2 := hm'.blk.cell 2 rfl
        have c5 := hm'.blk.cell 5 rfl
        rw [htv] at c0
        rw [hj] at c1
        rw [he] at c5
        have hj2 : (j : Int) < (ts.length : Int) := by omega
        have hj3 : (0 : Int) ≤ (j : Int) := by omega
        obtain ⟨A, cd, hnv, hnodes, hle, hmx⟩ := (hm'.nds.mono (S' := Any) fun _ _ _ => trivial).reads (fun _ _ _ => trivial)
        have hSN : SN.length = σ'.nodes.length := by rw [← hm'.ndl, List.length_map]
        rw [hnv, hSN] at c2
        rw [hm'.ndl] at hnodes
        rw [hSN] at hle
        have HNN := Lib.hid (And.intro hnodes (And.intro hle hmx))
        clear hp hpe he hgd hrest hm' htv hj hjl hf d1 d2 d3 hnv hSN hnodes hle hmx
        by_cases hk : t.kind = 0
        · have hki : ((t.kind : Int) != 0) = false := by simp; omega
          have HPO := Lib.hid (show parseS false L = (σ'.nodes, 0, 0) by rw [HPE.out]; exact if_pos hk)
          rw [hk] at d0
          clear hk
          go_wp2_with fail
          go_quiet (fail)
          go_wp2_with fail
          go_ret3
          rw [HPO.out]
          exact ⟨⟨_, _, _, rfl, rfl, HNN.out.1, HNN.out.2.1, HNN.out.2.2, HF2.out.trans (bel_drewN _ _ _)⟩, HNL.out⟩
        · have hki : ((t.kind : Int) != 0) = true := by simp; omega
          have hkn : (t.kind != 0) = true := bne_iff_ne.2 hk
          have HPO := Lib.hid (show parseS false L = ([], t.pos, 2) by rw [HPE.out]; exact if_neg hk)
          clear hk c2
          go_wp2_with fail
          go_quiet (fail)
          go_wp2_with fail
          refine (refBad0 w1.heap.size w1.heap.size ts σ' t r 2 _ (HM.out.later (bel_drewN _ _ _)) HE.out HRS.out (by have := HLN.out; omega)).mono ?_
          rintro e w3 ⟨rfl, hm3, hg3⟩
          obtain ⟨tv3, lv3, SN3, hm3⟩ := hm3
          clear c0 c1 c5 d0
          have c5 : w3.cell? ⟨w1.heap.size, 5, none⟩ = some (.int .i64 2) := hm3.blk.cell 5 rfl
          have c6 : w3.cell? ⟨w1.heap.size, 6, none⟩ = some (.int .i64 (t.pos : Int)) := hm3.blk.cell 6 rfl
          have HF3 := Lib.hid (HF2.out.trans ((HM.out.fp (grown_trans (grown_of_below (bel_drewN _ _ _)) hg3)).below.mono HBS.out))
          clear hm3 hg3
          go_wp2_with fail
          go_quiet (fail)
          go_wp2_with fail
          go_ret3
          exact ParseGotS.none HPO.out (HF3.out.trans (bel_drewN _ _ _))
      · have HPO := Lib.hid hpe
        obtain ⟨tv', lv, SN, hm'⟩ := hm
        have c5 := hm'.blk.cell 5 rfl
        have c6 := hm'.blk.cell 6 rfl
        have hne : ((σ'.err : Int) == 0) = false := beq_eq_false_iff_ne.2 (by omega)
        have hnn : ((σ'.err : Int) != 0) = true := by simp; omega
        have hne2 : (σ'.err == 0) = false := beq_eq_false_iff_ne.2 he
        clear hp hpe he hm' hf
        go_wp2_with fail
        go_quiet (fail)
        go_wp2_with fail
        go_quiet (fail)
        go_wp2_with fail
        go_ret3
        exact ParseGotS.none HPO.out ((HF2.out.trans (bel_drewN _ _ _)).trans (bel_drewN _ _ _))
    · go_wp2_with fail
      refine ((ref_parts ts.length).2.1 _ _ _ ts (start0 ts) _ HMEM.out (fun b hb => hb.elim) (start_ready HG.out HLN.out) (fun _ => Nat.le_refl _) (by have := HLN.out; omega)).mono ?_
      rintro e w2 ⟨v, σ', rfl, hm, hf, hp⟩
      have HF2 := Lib.hid (HB2.out.trans (hf.below.mono HBS.out))
      have HM := Lib.hid hm
      rcases HOUT.out σ' v hp with ⟨he, hgd, hnl, hpe⟩ | ⟨he, hpe⟩
      · obtain ⟨t, r, hrest, -⟩ := hgd.split
        rw [hrest] at hpe
        have HPE := Lib.hid hpe
        have HNL := Lib.hid (show σ'.nodes.length ≤ 2001 by have := HLN.out; omega)
        clear hnl
        have HE := Lib.hid he
        have HRS := Lib.hid hrest
        obtain ⟨tv', lv, SN, hm'⟩ := hm
        obtain ⟨b, cc, j, htv, hj, hjl, d0, d1, d2, d3⟩ := hm'.tok hrest
        have c0 := hm'.blk.cell 0 rfl
        have c1 := hm'.blk.cell 1 rfl
        have c2 := hm'.blk.cell 2 rfl
        have c5 := hm'.blk.cell 5 rfl
        rw [htv] at c0
        rw [hj] at c1
        rw [he] at c5
        have hj2 : (j : Int) < (ts.length : Int) := by omega
        have hj3 : (0 : Int) ≤ (j : Int) := by omega
        obtain ⟨A, cd, hnv, hnodes, hle, hmx⟩ := (hm'.nds.mono (S' := Any) fun _ _ _ => trivial).reads (fun _ _ _ => trivial)
        have hSN : SN.length = σ'.nodes.length := by rw [← hm'.ndl, List.length_map]
        rw [hnv, hSN] at c2
        rw [hm'.ndl] at hnodes
        rw [hSN] at hle
        have HNN := Lib.hid (And.intro hnodes (And.intro hle hmx))
        clear hp hpe he hgd hrest hm' htv hj hjl hf d1 d2 d3 hnv hSN hnodes hle hmx
        by_cases hk : t.kind = 0
        · have hki : ((t.kind : Int) != 0) = false := by simp; omega
          have HPO := Lib.hid (show parseS true L = (σ'.nodes, 0, 0) by rw [HPE.out]; exact if_pos hk)
          rw [hk] at d0
          clear hk
          go_wp2_with fail
          go_quiet (fail)
          go_wp2_with fail
          go_ret3
          rw [HPO.out]
          exact ⟨⟨_, _, _, rfl, rfl, HNN.out.1, HNN.out.2.1, HNN.out.2.2, HF2.out.trans (bel_drewN _ _ _)⟩, HNL.out⟩
        · have hki : ((t.kind : Int) != 0) = true := by simp; omega
          have hkn : (t.kind != 0) = true := bne_iff_ne.2 hk
          have HPO := Lib.hid (show parseS true L = ([], t.pos, 2) by rw [HPE.out]; exact if_neg hk)
          clear hk c2
          go_wp2_with fail
          go_quiet (fail)
          go_wp2_with fail
          refine (refBad0 w1.heap.size w1.heap.size ts σ' t r 2 _ (HM.out.later (bel_drewN _ _ _)) HE.out HRS.out (by have := HLN.out; omega)).mono ?_
          rintro e w3 ⟨rfl, hm3, hg3⟩
          obtain ⟨tv3, lv3, SN3, hm3⟩ := hm3
          clear c0 c1 c5 d0
          have c5 : w3.cell? ⟨w1.heap.size, 5, none⟩ = some (.int .i64 2) := hm3.blk.cell 5 rfl
          have c6 : w3.cell? ⟨w1.heap.size, 6, none⟩ = some (.int .i64 (t.pos : Int)) := hm3.blk.cell 6 rfl
          have HF3 := Lib.hid (HF2.out.trans ((HM.out.fp (grown_trans (grown_of_below (bel_drewN _ _ _)) hg3)).below.mono HBS.out))
          clear hm3 hg3
          go_wp2_with fail
          go_quiet (fail)
          go_wp2_with fail
          go_ret3
          exact ParseGotS.none HPO.out (HF3.out.trans (bel_drewN _ _ _))
      · have HPO := Lib.hid hpe
        obtain ⟨tv', lv, SN, hm'⟩ := hm
        have c5 := hm'.blk.cell 5 rfl
        have c6 := hm'.blk.cell 6 rfl
        have hne : ((σ'.err : Int) == 0) = false := beq_eq_false_iff_ne.2 (by omega)
        have hnn : ((σ'.err : Int) != 0) = true := by simp; omega
        have hne2 : (σ'.err == 0) = false := beq_eq_false_iff_ne.2 he
        clear hp hpe he hm' hf
        go_wp2_with fail
        go_quiet (fail)
        go_wp2_with fail
        go_quiet (fail)
        go_wp2_with fail
        go_ret3
        exact ParseGotS.none HPO.out ((HF2.out.trans (bel_drewN _ _ _)).trans (bel_drewN _ _ _))
  · have hcn : ((c : Int) != 0) = true := by simp; omega
    have HPO := Lib.hid (show parseS g L = ([], p, c) by unfold parseS; rw [if_pos (by rw [hc]; exact hc0), hp, hc])
    clear hs hL hts hp hc hc0
    go_enter Try.func12, Try.ntmps12
    go_wp2_with fail
    refine HX.out.mono ?_
    rintro e w1 ⟨v, rfl, ht, hb⟩
    have HB := Lib.hid hb
    clear ht hb
    go_wp2_with fail
    go_ret3
    exact ParseGotS.none HPO.out HB.out
theorem refParse (s : ByteArray) (w : World) (hs : s.size ≤ maxLen) : Calls Try.prog 7 #[.string s] w (ParseGotS w (parseS false s.data.toList)) := by
  have HR := Lib.hid (show Calls Try.prog 12 #[.string s, .bool true] w (ParseGotS w (parseS false s.data.toList)) from refRead s false w hs)
  clear hs
  go_enter Try.func7, Try.ntmps7
  go_wp2_with fail
  refine HR.out.mono ?_
  rintro e w1 ⟨⟨A, n, c, rfl, h2⟩, hl⟩
  have H2 := Lib.hid (And.intro h2 hl)
  clear h2 hl
  go_wp2_with fail
  go_ret3
  exact ⟨⟨_, _, _, rfl, H2.out.1⟩, H2.out.2⟩
theorem refRegex (s : ByteArray) (w : World) (hs : s.size ≤ maxLen) : Calls Try.prog 10 #[.string s] w (ParseGotS w (parseS true s.data.toList)) := by
  have HR := Lib.hid (show Calls Try.prog 12 #[.string s, .bool false] w (ParseGotS w (parseS true s.data.toList)) from refRead s true w hs)
  clear hs
  go_enter Try.func10, Try.ntmps10
  go_wp2_with fail
  refine HR.out.mono ?_
  rintro e w1 ⟨⟨A, n, c, rfl, h2⟩, hl⟩
  have H2 := Lib.hid (And.intro h2 hl)
  clear h2 hl
  go_wp2_with fail
  go_ret3
  exact ⟨⟨_, _, _, rfl, H2.out.1⟩, H2.out.2⟩
end Go.Proofs.Ytbehlceacgaebaa.Parse
