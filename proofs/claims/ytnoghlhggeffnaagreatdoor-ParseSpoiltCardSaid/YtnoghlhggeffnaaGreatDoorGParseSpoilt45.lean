/-
  All parts of the reference's reader, by the tokens that are left; its read, Parse and Regex. By an AI agent.
  The walk of the laws' awake. By an AI agent.
  slices.Equal, at two slices that read as integers. By an AI agent.
  The walk of the reference's SameNodes. By an AI agent.
  The walk of the laws' same. By an AI agent.
-/
import Derived.Test.YtnoghlhggeffnaaGreatDoorGParseSpoilt34
import Derived.Test.YtnoghlhggeffnaaGreatDoorGParseSpoilt43
import Derived.Test.YtnoghlhggeffnaaGreatDoorGParseSpoilt44
import Derived.Test.YtnoghlhggeffnaaGreatDoorChecked
import Derived.Test.YtnoghlhggeffnaaGreatDoorGParseSpoilt1
import Derived.Test.YtnoghlhggeffnaaGreatDoorGParseSpoilt7
import Derived.Test.YtnoghlhggeffnaaGreatDoorGParseSpoilt2
import Derived.Deep.RegionHeld3
namespace Go.Proofs.YtnoghlhggeffnaaGreatDoor.Parse
open Go.RowKit Go.Proofs.YtnoghlhggeffnaaGreatDoor.Ints Go.Proofs.YtnoghlhggeffnaaGreatDoor.Lex Go.Proofs.YtnoghlhggeffnaaGreatDoor.Tree

theorem bel_drewN (w : World) (n B : Nat) : Below B w (w.drewN n) := ⟨rfl, rfl, rfl, Nat.le_refl _, fun _ _ => rfl⟩
theorem refForm (n : Nat) (H : RowPart 0 n) : Part 43 (.row false 0) n := by
  intro Pr base g ts σ w h hlow hr hn hl
  have HT := Lib.hid (show Calls Tryz.prog 54 #[.pointer (some ⟨g, 0, none⟩), .int .i64 0] w (PartDone Pr base g ts (.row false 0) σ w) from H Pr base g ts σ w h hlow hr hn hl)
  clear h hlow hr hn hl
  go_enter Tryz.func43, Tryz.ntmps43
  go_wp2_with fail
  refine HT.out.mono ?_
  rintro e w1 ⟨a, σ1, rfl, hm, hf, hp⟩
  have HX := Lib.hid (And.intro hm (And.intro hf hp))
  clear hm hf hp
  go_wp2_with fail
  go_ret
  exact ⟨a, σ1, rfl, HX.out.1, HX.out.2.1, HX.out.2.2⟩
theorem ref_parts : ∀ n : Nat, Part 93 (.opd false) n ∧ Part 44 (.row true 0) n ∧ Part 43 (.row false 0) n := by
  intro n
  induction n using Nat.strongRecOn with
  | ind n ih =>
    have HU := fun m (hm : m < n) => (ih m hm).1
    have HG := fun m (hm : m < n) => (ih m hm).2.1
    have HF := fun m (hm : m < n) => (ih m hm).2.2
    have hun := refUn n HU (refPrim n HF HG)
    exact ⟨hun, refReg n (refSeq n (refRep n (refOne n HU HG))), refForm n (refRow0 n (refRow1 n (refRow2 n (tie_row n (refTie n hun)))))⟩

/-- What the reference's Parse and Regex leave; there are not many nodes. -/
def ParseGotS (w : World) (x : List Nd × Nat × Nat) (e : Ending) (w' : World) : Prop := ParseGot w x e w' ∧ x.1.length ≤ 2001
theorem ParseGotS.none {w w' : World} {x : List Nd × Nat × Nat} {p c : Nat} (hx : x = ([], p, c)) (hb : Below w.heap.size w w') : ParseGotS w x (.returned (.tuple #[.slice none 0 0, .int .i64 (p : Int), .int .i64 (c : Int)])) w' :=
  ⟨ParseGot.none hx hb, by rw [hx]; exact Nat.zero_le _⟩
def start0 (ts : List Tk) : RS := ⟨ts, [], 0, 0, 0, 0⟩
theorem ref_start {w : World} {tv : Value} {ts : List Tk} (h : Toks w tv ts) :
    RMemE (fun _ => False) (w.alloc (.cells #[tv, .int .i64 0, .slice none 0 0, .int .i64 0, .int .i64 0, .int .i64 0, .int .i64 0] 78)) w.heap.size w.heap.size ts (start0 ts) := by
  have hb : Below w.heap.size w (w.alloc (.cells #[tv, .int .i64 0, .slice none 0 0, .int .i64 0, .int .i64 0, .int .i64 0, .int .i64 0] 78)) := (Below.refl _ _).alloc (Nat.le_refl _) _
  have hblk := Blk.new w #[tv, .int .i64 0, .slice none 0 0, .int .i64 0, .int .i64 0, .int .i64 0, .int .i64 0] 78 _ rfl
  refine ⟨tv, .slice none 0 0, [], ?_, Nat.le_refl _, hb.size, h.keep hb, fun b hb' => ?_, List.suffix_refl _, OwnNodes.nil _ _ _, rfl, (fun e => by cases e), id, (fun b e => by cases e)⟩
  · have e : cellsR ts tv (.slice none 0 0) (start0 ts) = [tv, .int .i64 0, .slice none 0 0, .int .i64 0, .int .i64 0, .int .i64 0, .int .i64 0] := by
      unfold cellsR start0
      simp only
      rw [Nat.sub_self]
      rfl
    rw [e]
    exact hblk
  · obtain ⟨A, c, h1, h2, -⟩ := h
    rw [h1] at hb'
    cases A with
    | none => cases hb'
    | some a =>
      have hb' : some a.block = some b := hb'
      injection hb' with hb'
      rw [← hb']
      exact h2 a rfl
theorem start_ready {ts : List Tk} (h : GoodT ts) (hl : ts.length ≤ 2001) : Ready (start0 ts) :=
  ⟨fun _ => ⟨h, by show (0 : Int) ≤ 0; omega, by show (0 : Int) ≤ 40; omega, Nat.zero_le _⟩, by show (-2 : Int) ≤ 0 ∧ (0 : Int) ≤ 42; omega, by show 0 + ts.length ≤ 50000; omega⟩
/-- What the whole reader leaves. -/
theorem ref_out {g : Bool} {L : List UInt8} {ts : List Tk} {σ' : RS} {v : Int} (hc : (lexS L).2.2 = 0) (hts : (lexS L).1 = ts) (hG : GoodT ts) (hp : Post (.row g 0) (start0 ts) v σ') :
    (σ'.err = 0 ∧ GoodT σ'.rest ∧ σ'.nodes.length ≤ ts.length ∧ parseS g L = if kindOf σ'.rest = 0 then (σ'.nodes, 0, 0) else ([], posOf σ'.rest, 2)) ∨ (σ'.err ≠ 0 ∧ parseS g L = ([], σ'.wh, σ'.err)) := by
  have e : parseS g L = outM (allM g ts) := by unfold parseS; rw [if_neg (fun h => h hc), hts]
  rcases hp.now rfl with kd | kf
  · left
    refine ⟨kd.err, kd.good, by have h1 := kd.room; have h2 : σ'.nodes.length + σ'.rest.length ≤ 0 + ts.length := h1; omega, ?_⟩
    rw [e]
    exact sim_whole hG.allOk kd.d
  · right
    refine ⟨kf.err, ?_⟩
    rw [e]
    exact sim_whole hG.allOk kf.d
set_option maxHeartbeats 16000000 in
set_option maxRecDepth 100000 in
theorem refRead (s : ByteArray) (g : Bool) (w : World) (hs : s.size ≤ maxLen) :
    Calls Tryz.prog 28 #[.string s, .bool !g] w (ParseGotS w (parseS g s.data.toList)) := by
  have HX := Lib.hid ((refLex s w hs).mono fun e w' h => LexPost.got h)
  obtain ⟨L, hL⟩ : ∃ L, s.data.toList = L := ⟨_, rfl⟩
  rw [hL] at HX ⊢
  obtain ⟨ts, hts⟩ : ∃ ts, (lexS L).1 = ts := ⟨_, rfl⟩
  obtain ⟨p, hp⟩ : ∃ p, (lexS L).2.1 = p := ⟨_, rfl⟩
  obtain ⟨c, hc⟩ : ∃ c, (lexS L).2.2 = c := ⟨_, rfl⟩
  unfold LexGot at HX
  rw [hts, hp, hc] at HX
  by_cases hc0 : c = 0
  · subst hc0
    obtain ⟨hG, hlen⟩ := lexS_good hc
    rw [hts] at hG hlen
    have HG := Lib.hid hG
    have HLN := Lib.hid hlen
    have HOUT := Lib.hid (fun (σ' : RS) (v : Int) (hp : Post (.row g 0) (start0 ts) v σ') => ref_out hc hts hG hp)
    clear hs hL hts hp hc hG hlen
    go_enter Tryz.func28, Tryz.ntmps28
    go_wp2_with fail
    refine HX.out.mono ?_
    rintro e w1 ⟨v, rfl, ht, hb⟩
    obtain ⟨VA, vc, hv, -, -⟩ := id ht
    subst hv
    have HB := Lib.hid hb
    have HMEM := Lib.hid (ref_start ht)
    have HB2 := Lib.hid (hb.alloc hb.size (.cells #[.slice VA ts.length vc, .int .i64 0, .slice none 0 0, .int .i64 0, .int .i64 0, .int .i64 0, .int .i64 0] 78))
    have HBS := Lib.hid hb.size
    clear ht hb
    cases g
    · go_wp2_with fail
      refine ((ref_parts ts.length).2.2 _ _ _ ts (start0 ts) _ HMEM.out (fun b hb => hb.elim) (start_ready HG.out HLN.out) (fun _ => Nat.le_refl _) (by have := HLN.out; omega)).mono ?_
      rintro e w2 ⟨v, σ', rfl, hm, hf, hp⟩
      have HF2 := Lib.hid (HB2.out.trans (hf.below.mono HBS.out))
      have HM := Lib.hid hm
      rcases HOUT.out σ' v hp with ⟨he, hgd, hnl, hpe⟩ | ⟨he, hpe⟩
      · obtain ⟨t, r, hrest, -⟩ := hgd.split
        rw [hrest] at hpe
        have HPE := Lib.hid hpe
        have HNL := Lib.hid (show σ'.nodes.length ≤ 2001 by have := HLN.out; omega)
        clear hnl
        have HE := Lib.hid he
        have HRS := Lib.hid hrest
        obtain ⟨tv', lv, SN, hm'⟩ := hm
        obtain ⟨b, cc, j, htv, hj, hjl, d0, d1, d2, d3⟩ := hm'.tok hrest
        have c0 := hm'.blk.cell 0 rfl
        have c1 := hm'.blk.cell 1 rfl
        have c2 := hm'.blk.cell 2 rfl
        have c5 := hm'.blk.cell 5 rfl
        rw [htv] at c0
        rw [hj] at c1
        rw [he] at c5
        have hj2 : (j : Int) < (ts.length : Int) := by omega
        have hj3 : (0 : Int) ≤ (j : Int) := by omega
        obtain ⟨A, cd, hnv, hnodes, hle, hmx⟩ := (hm'.nds.mono (S' := Any) fun _ _ _ => trivial).reads (fun _ _ _ => trivial)
        have hSN : SN.length = σ'.nodes.length := by rw [← hm'.ndl, List.length_map]
        rw [hnv, hSN] at c2
        rw [hm'.ndl] at hnodes
        rw [hSN] at hle
        have HNN := Lib.hid (And.intro hnodes (And.intro hle hmx))
        clear hp hpe he hgd hrest hm' htv hj hjl hf d1 d2 d3 hnv hSN hnodes hle hmx
        by_cases hk : t.kind = 0
        · have hki : ((t.kind : Int) != 0) = false := by simp; omega
          have HPO := Lib.hid (show parseS false L = (σ'.nodes, 0, 0) by rw [HPE.out]; exact if_pos hk)
          rw [hk] at d0
          clear hk
          go_wp2_with fail
          go_quiet (fail)
          go_wp2_with fail
          go_ret3
          rw [HPO.out]
          exact ⟨⟨_, _, _, rfl, rfl, HNN.out.1, HNN.out.2.1, HNN.out.2.2, HF2.out.trans (bel_drewN _ _ _)⟩, HNL.out⟩
        · have hki : ((t.kind : Int) != 0) = true := by simp; omega
          have hkn : (t.kind != 0) = true := bne_iff_ne.2 hk
          have HPO := Lib.hid (show parseS false L = ([], t.pos, 2) by rw [HPE.out]; exact if_neg hk)
          clear hk c2
          go_wp2_with fail
          go_quiet (fail)
          go_wp2_with fail
          refine (refBad0 w1.heap.size w1.heap.size ts σ' t r 2 _ (HM.out.later (bel_drewN _ _ _)) HE.out HRS.out (by have := HLN.out; omega)).mono ?_
          rintro e w3 ⟨rfl, hm3, hg3⟩
          obtain ⟨tv3, lv3, SN3, hm3⟩ := hm3
          clear c0 c1 c5 d0
          have c5 : w3.cell? ⟨w1.heap.size, 5, none⟩ = some (.int .i64 2) := hm3.blk.cell 5 rfl
          have c6 : w3.cell? ⟨w1.heap.size, 6, none⟩ = some (.int .i64 (t.pos : Int)) := hm3.blk.cell 6 rfl
          have HF3 := Lib.hid (HF2.out.trans ((HM.out.fp (grown_trans (grown_of_below (bel_drewN _ _ _)) hg3)).below.mono HBS.out))
          clear hm3 hg3
          go_wp2_with fail
          go_quiet (fail)
          go_wp2_with fail
          go_ret3
          exact ParseGotS.none HPO.out (HF3.out.trans (bel_drewN _ _ _))
      · have HPO := Lib.hid hpe
        obtain ⟨tv', lv, SN, hm'⟩ := hm
        have c5 := hm'.blk.cell 5 rfl
        have c6 := hm'.blk.cell 6 rfl
        have hne : ((σ'.err : Int) == 0) = false := beq_eq_false_iff_ne.2 (by omega)
        have hnn : ((σ'.err : Int) != 0) = true := by simp; omega
        have hne2 : (σ'.err == 0) = false := beq_eq_false_iff_ne.2 he
        clear hp hpe he hm' hf
        go_wp2_with fail
        go_quiet (fail)
        go_wp2_with fail
        go_quiet (fail)
        go_wp2_with fail
        go_ret3
        exact ParseGotS.none HPO.out ((HF2.out.trans (bel_drewN _ _ _)).trans (bel_drewN _ _ _))
    · go_wp2_with fail
      refine ((ref_parts ts.length).2.1 _ _ _ ts (start0 ts) _ HMEM.out (fun b hb => hb.elim) (start_ready HG.out HLN.out) (fun _ => Nat.le_refl _) (by have := HLN.out; omega)).mono ?_
      rintro e w2 ⟨v, σ', rfl, hm, hf, hp⟩
      have HF2 := Lib.hid (HB2.out.trans (hf.below.mono HBS.out))
      have HM := Lib.hid hm
      rcases HOUT.out σ' v hp with ⟨he, hgd, hnl, hpe⟩ | ⟨he, hpe⟩
      · obtain ⟨t, r, hrest, -⟩ := hgd.split
        rw [hrest] at hpe
        have HPE := Lib.hid hpe
        have HNL := Lib.hid (show σ'.nodes.length ≤ 2001 by have := HLN.out; omega)
        clear hnl
        have HE := Lib.hid he
        have HRS := Lib.hid hrest
        obtain ⟨tv', lv, SN, hm'⟩ := hm
        obtain ⟨b, cc, j, htv, hj, hjl, d0, d1, d2, d3⟩ := hm'.tok hrest
        have c0 := hm'.blk.cell 0 rfl
        have c1 := hm'.blk.cell 1 rfl
        have c2 := hm'.blk.cell 2 rfl
        have c5 := hm'.blk.cell 5 rfl
        rw [htv] at c0
        rw [hj] at c1
        rw [he] at c5
        have hj2 : (j : Int) < (ts.length : Int) := by omega
        have hj3 : (0 : Int) ≤ (j : Int) := by omega
        obtain ⟨A, cd, hnv, hnodes, hle, hmx⟩ := (hm'.nds.mono (S' := Any) fun _ _ _ => trivial).reads (fun _ _ _ => trivial)
        have hSN : SN.length = σ'.nodes.length := by rw [← hm'.ndl, List.length_map]
        rw [hnv, hSN] at c2
        rw [hm'.ndl] at hnodes
        rw [hSN] at hle
        have HNN := Lib.hid (And.intro hnodes (And.intro hle hmx))
        clear hp hpe he hgd hrest hm' htv hj hjl hf d1 d2 d3 hnv hSN hnodes hle hmx
        by_cases hk : t.kind = 0
        · have hki : ((t.kind : Int) != 0) = false := by simp; omega
          have HPO := Lib.hid (show parseS true L = (σ'.nodes, 0, 0) by rw [HPE.out]; exact if_pos hk)
          rw [hk] at d0
          clear hk
          go_wp2_with fail
          go_quiet (fail)
          go_wp2_with fail
          go_ret3
          rw [HPO.out]
          exact ⟨⟨_, _, _, rfl, rfl, HNN.out.1, HNN.out.2.1, HNN.out.2.2, HF2.out.trans (bel_drewN _ _ _)⟩, HNL.out⟩
        · have hki : ((t.kind : Int) != 0) = true := by simp; omega
          have hkn : (t.kind != 0) = true := bne_iff_ne.2 hk
          have HPO := Lib.hid (show parseS true L = ([], t.pos, 2) by rw [HPE.out]; exact if_neg hk)
          clear hk c2
          go_wp2_with fail
          go_quiet (fail)
          go_wp2_with fail
          refine (refBad0 w1.heap.size w1.heap.size ts σ' t r 2 _ (HM.out.later (bel_drewN _ _ _)) HE.out HRS.out (by have := HLN.out; omega)).mono ?_
          rintro e w3 ⟨rfl, hm3, hg3⟩
          obtain ⟨tv3, lv3, SN3, hm3⟩ := hm3
          clear c0 c1 c5 d0
          have c5 : w3.cell? ⟨w1.heap.size, 5, none⟩ = some (.int .i64 2) := hm3.blk.cell 5 rfl
          have c6 : w3.cell? ⟨w1.heap.size, 6, none⟩ = some (.int .i64 (t.pos : Int)) := hm3.blk.cell 6 rfl
          have HF3 := Lib.hid (HF2.out.trans ((HM.out.fp (grown_trans (grown_of_below (bel_drewN _ _ _)) hg3)).below.mono HBS.out))
          clear hm3 hg3
          go_wp2_with fail
          go_quiet (fail)
          go_wp2_with fail
          go_ret3
          exact ParseGotS.none HPO.out (HF3.out.trans (bel_drewN _ _ _))
      · have HPO := Lib.hid hpe
        obtain ⟨tv', lv, SN, hm'⟩ := hm
        have c5 := hm'.blk.cell 5 rfl
        have c6 := hm'.blk.cell 6 rfl
        have hne : ((σ'.err : Int) == 0) = false := beq_eq_false_iff_ne.2 (by omega)
        have hnn : ((σ'.err : Int) != 0) = true := by simp; omega
        have hne2 : (σ'.err == 0) = false := beq_eq_false_iff_ne.2 he
        clear hp hpe he hm' hf
        go_wp2_with fail
        go_quiet (fail)
        go_wp2_with fail
        go_quiet (fail)
        go_wp2_with fail
        go_ret3
        exact ParseGotS.none HPO.out ((HF2.out.trans (bel_drewN _ _ _)).trans (bel_drewN _ _ _))
  · have hcn : ((c : Int) != 0) = true := by simp; omega
    have HPO := Lib.hid (show parseS g L = ([], p, c) by unfold parseS; rw [if_pos (by rw [hc]; exact hc0), hp, hc])
    clear hs hL hts hp hc hc0
    go_enter Tryz.func28, Tryz.ntmps28
    go_wp2_with fail
    refine HX.out.mono ?_
    rintro e w1 ⟨v, rfl, ht, hb⟩
    have HB := Lib.hid hb
    clear ht hb
    go_wp2_with fail
    go_ret3
    exact ParseGotS.none HPO.out HB.out
theorem refParse (s : ByteArray) (w : World) (hs : s.size ≤ maxLen) : Calls Tryz.prog 14 #[.string s] w (ParseGotS w (parseS false s.data.toList)) := by
  have HR := Lib.hid (show Calls Tryz.prog 28 #[.string s, .bool true] w (ParseGotS w (parseS false s.data.toList)) from refRead s false w hs)
  clear hs
  go_enter Tryz.func14, Tryz.ntmps14
  go_wp2_with fail
  refine HR.out.mono ?_
  rintro e w1 ⟨⟨A, n, c, rfl, h2⟩, hl⟩
  have H2 := Lib.hid (And.intro h2 hl)
  clear h2 hl
  go_wp2_with fail
  go_ret3
  exact ⟨⟨_, _, _, rfl, H2.out.1⟩, H2.out.2⟩
theorem refRegex (s : ByteArray) (w : World) (hs : s.size ≤ maxLen) : Calls Tryz.prog 17 #[.string s] w (ParseGotS w (parseS true s.data.toList)) := by
  have HR := Lib.hid (show Calls Tryz.prog 28 #[.string s, .bool false] w (ParseGotS w (parseS true s.data.toList)) from refRead s true w hs)
  clear hs
  go_enter Tryz.func17, Tryz.ntmps17
  go_wp2_with fail
  refine HR.out.mono ?_
  rintro e w1 ⟨⟨A, n, c, rfl, h2⟩, hl⟩
  have H2 := Lib.hid (And.intro h2 hl)
  clear h2 hl
  go_wp2_with fail
  go_ret3
  exact ⟨⟨_, _, _, rfl, H2.out.1⟩, H2.out.2⟩
end Go.Proofs.YtnoghlhggeffnaaGreatDoor.Parse

namespace Go.Proofs.YtnoghlhggeffnaaGreatDoor.Parse
open Go.RowKit Go.Proofs.YtnoghlhggeffnaaGreatDoor.Ints Go.Proofs.YtnoghlhggeffnaaGreatDoor.Lex Go.Proofs.YtnoghlhggeffnaaGreatDoor.Tree

/-- The kind of a node of a list that was read. -/
theorem Nodes.kind {w : World} {A : Option Addr} {l : List Nd} (h : Nodes Any w A l) (h0 : 0 < l.length) : ∃ b off, A = some ⟨b, off, none⟩ ∧ ∀ (j : Nat) (n : Nd), l[j]? = some n → w.cell? ⟨b, off + j * 5, none⟩ = some (.int .i64 n.kind) ∧ w.cell? ⟨b, off + j * 5 + 1, none⟩ = some (.string n.name) := by
  obtain ⟨b, off, e, hn⟩ := h h0
  refine ⟨b, off, e, fun j n hj => ?_⟩
  have := hn j n hj
  rw [Nat.mul_comm 5 j] at this
  exact ⟨this.1, this.2.1⟩
theorem out_split {x : List Nd × Nat × Nat} {p c : Nat} (h : x.2 = (p, c)) : ∃ l, x = (l, p, c) ∧ x.1 = l := ⟨x.1, by rw [← h], rfl⟩
set_option maxHeartbeats 8000000 in
set_option maxRecDepth 100000 in
theorem awake (w : World) : Calls Tryz.prog 8 #[] w fun e w' => e = .returned (.bool true) ∧ Below w.heap.size w w' := by
  obtain ⟨l1, e1, k1⟩ := out_split awake1.1
  have hk1 := awake1.2
  rw [k1] at hk1
  obtain ⟨l2, e2, k2⟩ := out_split awake2.1
  have H1 := Lib.hid (fun W => landParse ⟨#[111, 110, 99, 101, 91, 50, 44, 53, 93, 32, 112, 32, 38, 32, 113]⟩ W (by decide))
  have H2 := Lib.hid (fun W => landRegex ⟨#[112, 32, 113]⟩ W (by decide))
  rw [show parseS false (ByteArray.mk #[111, 110, 99, 101, 91, 50, 44, 53, 93, 32, 112, 32, 38, 32, 113]).data.toList = (l1, 0, 0) from e1] at H1
  rw [show parseS true (ByteArray.mk #[112, 32, 113]).data.toList = (l2, 0, 2) from e2] at H2
  have hl1 : l1.length = 4 := by have := congrArg List.length hk1; rw [List.length_map] at this; exact this
  obtain ⟨n3, hn3⟩ : ∃ n, l1[3]? = some n := ⟨_, List.getElem?_eq_getElem (by omega)⟩
  have hkd : n3.kind = 5 := by
    have := congrArg (·[3]?) hk1
    simp only [List.getElem?_map, hn3] at this
    simpa using this
  have HL := Lib.hid hl1
  have HN := Lib.hid hn3
  have HK := Lib.hid hkd
  clear e1 k1 hk1 e2 k2 hl1 hn3 hkd
  go_enter Tryz.func8, Tryz.ntmps8
  go_wp2_with fail
  refine (H1.out _).mono ?_
  rintro e w1 ⟨A, n, c, rfl, hn, hN, hc, -, hb⟩
  rw [HL.out] at hn
  subst hn
  have HN1 := Lib.hid hN
  have HB1 := Lib.hid hb
  have hc4 : (4 : Int) ≤ (c : Int) := by omega
  clear hN hb hc
  go_wp2_with fail
  refine (H2.out _).mono ?_
  rintro e w2 ⟨A2, n2, c2, rfl, -, -, -, -, hb2⟩
  obtain ⟨b, off, rfl, hcell⟩ := Nodes.kind (HN1.out.below hb2) (by rw [HL.out]; decide)
  have k3 := (hcell 3 n3 HN.out).1
  rw [HK.out] at k3
  have HB2 := Lib.hid (HB1.out.trans (hb2.mono HB1.out.size))
  clear hb2 hcell
  go_wp2_with fail
  go_ret
  exact ⟨rfl, HB2.out⟩
end Go.Proofs.YtnoghlhggeffnaaGreatDoor.Parse

namespace Go.Proofs.YtnoghlhggeffnaaGreatDoor.Tree
open Go.RowKit Go.Proofs.YtnoghlhggeffnaaGreatDoor.Ints

theorem equalInts (K1 K2 : Option Addr) (n1 c1 n2 c2 : Nat) (l1 l2 : List Int) (w : World) (h1 : Rd .i64 w K1 n1 l1) (h2 : Rd .i64 w K2 n2 l2) (hb1 : n1 ≤ maxLen) (hb2 : n2 ≤ maxLen) :
    Calls Tryz.prog 29 #[.slice K1 n1 c1, .slice K2 n2 c2] w fun e w' => e = .returned (.bool (decide (l1 = l2))) ∧ ∃ q, w' = w.drewN q := by
  have hm : maxLen = 9223372036854775807 := rfl
  by_cases hn : n1 = n2
  · subst hn
    by_cases h0 : n1 = 0
    · subst h0
      have e1 : l1 = [] := List.eq_nil_of_length_eq_zero h1.len
      have e2 : l2 = [] := List.eq_nil_of_length_eq_zero h2.len
      subst e1; subst e2
      exact (Tryz.slices_Equal_int_empty K1 K2 c1 0 c2 w (by omega)).mono fun e w' ⟨he, hw⟩ => ⟨he, 0, hw⟩
    · obtain ⟨b1, o1, rfl, k1⟩ := h1.cell (by omega)
      obtain ⟨b2, o2, rfl, k2⟩ := h2.cell (by omega)
      refine (Tryz.slices_Equal_int b1 o1 n1 c1 b2 o2 n1 c2 l1 l2 w (by rw [h1.len]; exact Nat.le_refl _) (by rw [h2.len]; exact Nat.le_refl _) (by omega) (by omega) (fun j hj => by have := k1 j (by rw [← h1.len]; exact hj); simpa [List.getD] using this) (fun j hj => by have := k2 j (by rw [← h2.len]; exact hj); simpa [List.getD] using this)).mono fun e w' ⟨he, hw⟩ => ⟨?_, hw⟩
      rw [he, List.take_of_length_le (by rw [h1.len]; exact Nat.le_refl _), List.take_of_length_le (by rw [h2.len]; exact Nat.le_refl _)]
      congr 2
      rw [Bool.eq_iff_iff, beq_iff_eq, decide_eq_true_iff]
  · have hne : decide (l1 = l2) = false := by
      rw [decide_eq_false_iff_not]
      intro e
      exact hn (by rw [← h1.len, ← h2.len, e])
    rw [hne]
    exact (Tryz.slices_Equal_int_lens K1 K2 n1 c1 n2 c2 w hn).mono fun e w' ⟨he, hw⟩ => ⟨he, 0, hw⟩

end Go.Proofs.YtnoghlhggeffnaaGreatDoor.Tree

namespace Go.Proofs.YtnoghlhggeffnaaGreatDoor.Tree
open Go.RowKit Go.Proofs.YtnoghlhggeffnaaGreatDoor.Ints

theorem nd_eq (x y : Nd) : decide (x = y) = (decide (x.kind = y.kind) && (decide (x.name = y.name) && (decide (x.lo = y.lo ∧ x.hi = y.hi) && decide (x.kids = y.kids)))) := by
  cases x; cases y
  simp only [Nd.mk.injEq, Bool.decide_and, Bool.and_assoc]
theorem str_beq (a b : ByteArray) : (a.toList == b.toList) = decide (a = b) := by
  rw [Bool.eq_iff_iff, beq_iff_eq, decide_eq_true_iff, ByteArray.toList_eq, ByteArray.toList_eq]
  exact ⟨fun h => ByteArray.ext (Array.toList_inj.1 h), fun h => by rw [h]⟩
theorem nodes_ext {l m : List Nd} (hl : l.length = m.length) (h : ∀ j : Nat, j < l.length → l[j]? = m[j]?) : l = m := by
  apply List.ext_getElem?
  intro j
  by_cases hj : j < l.length
  · exact h j hj
  · rw [List.getElem?_eq_none (by omega), List.getElem?_eq_none (by omega)]

theorem same_no {a b : List Nd} {k : Nat} {x y : Nd} (hx : a[k]? = some x) (hy : b[k]? = some y) (h : x ≠ y) : decide (a = b) = false := by
  rw [decide_eq_false_iff_not]
  intro e
  rw [e, hy] at hx
  exact h (Option.some.inj hx).symm
theorem same_ways (x y : Nd) : ((x.kind != y.kind) = true ∧ x ≠ y) ∨ ((x.kind != y.kind) = false ∧ (x.name.toList == y.name.toList) = false ∧ (x.name.toList != y.name.toList) = true ∧ x ≠ y) ∨
    ((x.kind != y.kind) = false ∧ (x.name.toList == y.name.toList) = true ∧ (x.name.toList != y.name.toList) = false ∧ decide (x.lo = y.lo ∧ x.hi = y.hi) = false ∧ x ≠ y) ∨
    ((x.kind != y.kind) = false ∧ (x.name.toList == y.name.toList) = true ∧ (x.name.toList != y.name.toList) = false ∧ decide (x.lo = y.lo ∧ x.hi = y.hi) = true ∧ decide (x.kids = y.kids) = false ∧ x ≠ y) ∨
    ((x.kind != y.kind) = false ∧ (x.name.toList == y.name.toList) = true ∧ (x.name.toList != y.name.toList) = false ∧ decide (x.lo = y.lo ∧ x.hi = y.hi) = true ∧ decide (x.kids = y.kids) = true ∧ x = y) := by
  by_cases h1 : x.kind = y.kind
  · have e1 : (x.kind != y.kind) = false := by rw [h1]; simp
    by_cases h2 : x.name = y.name
    · have e2 : (x.name.toList == y.name.toList) = true := by rw [str_beq]; exact decide_eq_true h2
      have e2' : (x.name.toList != y.name.toList) = false := by rw [bne, e2]; rfl
      by_cases h3 : x.lo = y.lo ∧ x.hi = y.hi
      · by_cases h4 : x.kids = y.kids
        · refine Or.inr (Or.inr (Or.inr (Or.inr ⟨e1, e2, e2', decide_eq_true h3, decide_eq_true h4, ?_⟩)))
          cases x; cases y
          simp only at h1 h2 h3 h4
          rw [h1, h2, h3.1, h3.2, h4]
        · exact Or.inr (Or.inr (Or.inr (Or.inl ⟨e1, e2, e2', decide_eq_true h3, decide_eq_false h4, fun e => h4 (by rw [e])⟩)))
      · exact Or.inr (Or.inr (Or.inl ⟨e1, e2, e2', decide_eq_false h3, fun e => h3 (by rw [e]; exact ⟨rfl, rfl⟩)⟩))
    · have e2 : (x.name.toList == y.name.toList) = false := by rw [str_beq]; exact decide_eq_false h2
      exact Or.inr (Or.inl ⟨e1, e2, by rw [bne, e2]; rfl, fun e => h2 (by rw [e])⟩)
  · exact Or.inl ⟨bne_iff_ne.2 h1, fun e => h1 (by rw [e])⟩

set_option maxHeartbeats 8000000 in
set_option maxRecDepth 100000 in
theorem refSameNodes (A B : Option Addr) (n c m d : Nat) (a b : List Nd) (w : World) (ha : a.length = n) (hb : b.length = m) (hn : n ≤ 4194304) (hA : Nodes Any w A a) (hB : Nodes Any w B b) :
    Calls Tryz.prog 15 #[.slice A n c, .slice B m d] w fun e w' => e = .returned (.bool (decide (a = b))) ∧ Below w.heap.size w w' := by
  have hni : (n : Int) ≤ 4194304 := by omega
  have HLA := Lib.hid ha
  have HLB := Lib.hid hb
  have HNA := Lib.hid hA
  have HNB := Lib.hid hB
  clear ha hb hA hB hn
  by_cases hnm : n = m
  · subst hnm
    have hne : ((n : Int) != (n : Int)) = false := by simp
    go_enter Tryz.func15, Tryz.ntmps15
    go_wp2
    go_loopw [15] (fun i wr => ∃ k : Nat, k ≤ n ∧ i = .int .i64 k ∧ Below w.heap.size w wr ∧ Hid (∀ j : Nat, j < k → a[j]? = b[j]?)) (fun i _ => n - (intOf i).toNat)
    case atStart => exact ⟨0, Nat.zero_le _, rfl, Below.refl _ _, fun j hj => absurd hj (by omega)⟩
    case round =>
      obtain ⟨k, hk, rfl, hB, HZ⟩ := hrel
      have HB := Lib.hid hB
      clear hB
      by_cases hkn : k < n
      · have hkn' : (k : Int) < (n : Int) := by omega
        have hk0 : (0 : Int) ≤ (k : Int) := by omega
        obtain ⟨b1, off1, e1, hn1⟩ := (HNA.out.below HB.out) (by have := HLA.out; omega)
        obtain ⟨b2, off2, e2, hn2⟩ := (HNB.out.below HB.out) (by have := HLB.out; omega)
        obtain ⟨x, hx⟩ : ∃ x, a[k]? = some x := ⟨_, List.getElem?_eq_getElem (by have := HLA.out; omega)⟩
        obtain ⟨y, hy⟩ : ∃ y, b[k]? = some y := ⟨_, List.getElem?_eq_getElem (by have := HLB.out; omega)⟩
        obtain ⟨x0, x1, x2, x3, -, -, -, -, K1, c1, x4, hK1, hKc1, hcK1, -, -⟩ := hn1 k x hx
        obtain ⟨y0, y1, y2, y3, -, -, -, -, K2, c2, y4, hK2, hKc2, hcK2, -, -⟩ := hn2 k y hy
        rw [Nat.mul_comm 5 k] at x0 x1 x2 x3 x4 y0 y1 y2 y3 y4
        have HX := Lib.hid hx
        have HY := Lib.hid hy
        have HEQ := Lib.hid (fun W (hb : Below wr.heap.size wr W) => equalInts K1 K2 x.kids.length c1 y.kids.length c2 x.kids y.kids W (hK1.below hb) (hK2.below hb) (Nat.le_trans hKc1 hcK1) (Nat.le_trans hKc2 hcK2))
        subst e1
        subst e2
        clear hn1 hn2 hx hy hK1 hK2 hKc1 hKc2 hcK1 hcK2
        go_wp2
        go_region_held3 (fun w' => w'.cell? ⟨b1, off1 + k * 5, none⟩ = some (.int .i64 x.kind) ∧ w'.cell? ⟨b1, off1 + k * 5 + 1, none⟩ = some (.string x.name) ∧ w'.cell? ⟨b1, off1 + k * 5 + 2, none⟩ = some (.int .i64 x.lo) ∧ w'.cell? ⟨b1, off1 + k * 5 + 3, none⟩ = some (.int .i64 x.hi) ∧ w'.cell? ⟨b1, off1 + k * 5 + 4, none⟩ = some (.slice K1 x.kids.length c1) ∧
            w'.cell? ⟨b2, off2 + k * 5, none⟩ = some (.int .i64 y.kind) ∧ w'.cell? ⟨b2, off2 + k * 5 + 1, none⟩ = some (.string y.name) ∧ w'.cell? ⟨b2, off2 + k * 5 + 2, none⟩ = some (.int .i64 y.lo) ∧ w'.cell? ⟨b2, off2 + k * 5 + 3, none⟩ = some (.int .i64 y.hi) ∧ w'.cell? ⟨b2, off2 + k * 5 + 4, none⟩ = some (.slice K2 y.kids.length c2)) (go_keep) (fail)
        all_goals
          rcases same_ways x y with ⟨hk, h⟩ | ⟨hk, hm1, hm2, h⟩ | ⟨hk, hm1, hm2, hsp, h⟩ | ⟨hk, hm1, hm2, hsp, hkd, h⟩ | ⟨hk, hm1, hm2, hsp, hkd, h⟩
          · have HR := Lib.hid (same_no HX.out HY.out h)
            clear h
            go_wp2
            go_ret
            exact ⟨by rw [HR.out]; rfl, (((HB.out.alloc HB.out.size _).alloc (le_alloc HB.out.size) _)).drew⟩
          · have HR := Lib.hid (same_no HX.out HY.out h)
            clear h
            go_wp2
            go_ret
            exact ⟨by rw [HR.out]; rfl, (((HB.out.alloc HB.out.size _).alloc (le_alloc HB.out.size) _)).drew⟩
          · have HR := Lib.hid (same_no HX.out HY.out h)
            have hsq := fun W => span_neq x.lo x.hi y.lo y.hi W
            rw [hsp] at hsq
            have hgs := guardSpan
            clear h hsp
            go_wp2
            go_ret
            exact ⟨by rw [HR.out]; rfl, (((HB.out.alloc HB.out.size _).alloc (le_alloc HB.out.size) _)).drew⟩
          · have HR := Lib.hid (same_no HX.out HY.out h)
            have hsq := fun W => span_neq x.lo x.hi y.lo y.hi W
            rw [hsp] at hsq
            have hgs := guardSpan
            rw [hkd] at HEQ
            clear h hsp hkd
            go_wp2_with (go_at_call 29; refine (HEQ.out _ (((Below.refl _ _).alloc (Nat.le_refl _) _).alloc (le_alloc (Nat.le_refl _)) _ |>.drew)).mono ?_; rintro e w' ⟨rfl, q, rfl⟩)
            go_ret
            exact ⟨by rw [HR.out]; rfl, below_drewN ((HB.out.alloc HB.out.size _).alloc (le_alloc HB.out.size) _) _⟩
          · have HZ2 := Lib.hid (show ∀ j : Nat, j < k + 1 → a[j]? = b[j]? from fun j hj => by
              by_cases hjk : j = k
              · rw [hjk, HX.out, HY.out, h]
              · exact HZ.out j (by omega))
            have hsq := fun W => span_neq x.lo x.hi y.lo y.hi W
            rw [hsp] at hsq
            have hgs := guardSpan
            rw [hkd] at HEQ
            clear h hsp hkd
            go_wp2_with (go_at_call 29; refine (HEQ.out _ (((Below.refl _ _).alloc (Nat.le_refl _) _).alloc (le_alloc (Nat.le_refl _)) _ |>.drew)).mono ?_; rintro e w' ⟨rfl, q, rfl⟩)
            go_roundw
            case rel => exact ⟨k + 1, by omega, by go_num, below_drewN ((HB.out.alloc HB.out.size _).alloc (le_alloc HB.out.size) _) _, HZ2⟩
            case measure => simp [intOf]; omega
      · have hge : decide ((k : Int) < (n : Int)) = false := by simp; omega
        have HR := Lib.hid (show decide (a = b) = true from decide_eq_true (nodes_ext (by rw [HLA.out, HLB.out]) (fun j hj => HZ.out j (by have := HLA.out; omega))))
        go_wp2
        go_ret
        exact ⟨by rw [HR.out]; rfl, HB.out⟩
  · have hne : ((n : Int) != (m : Int)) = true := by simp; omega
    have HR := Lib.hid (show decide (a = b) = false from decide_eq_false fun e => hnm (by rw [← HLA.out, ← HLB.out, e]))
    clear hnm
    go_enter Tryz.func15, Tryz.ntmps15
    go_wp2
    go_ret
    exact ⟨by rw [HR.out]; rfl, Below.refl _ _⟩
end Go.Proofs.YtnoghlhggeffnaaGreatDoor.Tree

namespace Go.Proofs.YtnoghlhggeffnaaGreatDoor.Parse
open Go.RowKit Go.Proofs.YtnoghlhggeffnaaGreatDoor.Ints Go.Proofs.YtnoghlhggeffnaaGreatDoor.Lex Go.Proofs.YtnoghlhggeffnaaGreatDoor.Tree

set_option maxHeartbeats 8000000 in
set_option maxRecDepth 100000 in
theorem lawSame (s : ByteArray) (w : World) (hs : s.size ≤ maxLen) : Calls Tryz.prog 7 #[.string s] w fun e w' => e = .returned (.bool true) ∧ Below w.heap.size w w' := by
  have H1 := Lib.hid (fun W => landParse s W hs)
  have H2 := Lib.hid (fun W => refParse s W hs)
  have H3 := Lib.hid (fun W => landRegex s W hs)
  have H4 := Lib.hid (fun W => refRegex s W hs)
  obtain ⟨x, hx⟩ : ∃ x, parseS false s.data.toList = x := ⟨_, rfl⟩
  obtain ⟨y, hy⟩ : ∃ y, parseS true s.data.toList = y := ⟨_, rfl⟩
  rw [hx] at H1 H2
  rw [hy] at H3 H4
  clear hs hx hy
  obtain ⟨l, p, c⟩ := x
  obtain ⟨m, q, d⟩ := y
  go_enter Tryz.func7, Tryz.ntmps7
  go_wp2_with fail
  refine (H1.out _).mono ?_
  rintro e w1 ⟨A1, n1, c1, rfl, hn1, hN1, -, -, hb1⟩
  have K1 := Lib.hid (And.intro hn1 hN1)
  have HB1 := Lib.hid hb1
  clear hn1 hN1 hb1
  go_wp2_with fail
  refine (H2.out _).mono ?_
  rintro e w2 ⟨⟨A2, n2, c2, rfl, hn2, hN2, -, -, hb2⟩, hl⟩
  have K2 := Lib.hid (And.intro hn2 hN2)
  have HLL := Lib.hid hl
  have HB2 := Lib.hid (HB1.out.trans (hb2.mono HB1.out.size))
  have HN1 := Lib.hid (K1.out.2.below hb2)
  clear hn2 hN2 hb2 hl
  have HS := Lib.hid (refSameNodes A1 A2 n1 c1 n2 c2 l l w2 K1.out.1 K2.out.1 (by rw [← K1.out.1]; exact Nat.le_trans HLL.out (by decide)) HN1.out K2.out.2)
  rw [decide_eq_true rfl] at HS
  go_wp2_with fail
  refine HS.out.mono ?_
  rintro e w3 ⟨rfl, hb3⟩
  have HB3 := Lib.hid (HB2.out.trans (hb3.mono HB2.out.size))
  clear hb3
  go_wp2_with fail
  refine (H3.out _).mono ?_
  rintro e w4 ⟨A3, n3, c3, rfl, hn3, hN3, -, -, hb4⟩
  have K3 := Lib.hid (And.intro hn3 hN3)
  have HB4 := Lib.hid (HB3.out.trans (hb4.mono HB3.out.size))
  clear hn3 hN3 hb4
  go_wp2_with fail
  refine (H4.out _).mono ?_
  rintro e w5 ⟨⟨A4, n4, c4, rfl, hn4, hN4, -, -, hb5⟩, hl⟩
  have K4 := Lib.hid (And.intro hn4 hN4)
  have HLM := Lib.hid hl
  have HB5 := Lib.hid (HB4.out.trans (hb5.mono HB4.out.size))
  have HN3 := Lib.hid (K3.out.2.below hb5)
  clear hn4 hN4 hb5 hl
  have HS2 := Lib.hid (refSameNodes A3 A4 n3 c3 n4 c4 m m w5 K3.out.1 K4.out.1 (by rw [← K3.out.1]; exact Nat.le_trans HLM.out (by decide)) HN3.out K4.out.2)
  rw [decide_eq_true rfl] at HS2
  go_wp2_with fail
  refine HS2.out.mono ?_
  rintro e w6 ⟨rfl, hb6⟩
  have HB6 := Lib.hid (HB5.out.trans (hb6.mono HB5.out.size))
  clear hb6
  go_wp2_with fail
  go_ret
  exact ⟨rfl, HB6.out⟩
end Go.Proofs.YtnoghlhggeffnaaGreatDoor.Parse
