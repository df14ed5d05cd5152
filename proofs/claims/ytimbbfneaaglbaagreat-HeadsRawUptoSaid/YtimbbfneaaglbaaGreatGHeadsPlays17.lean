/-
  The walk of the reference's Head. By an AI agent.
  What a call that reads a log leaves. By an AI agent.
-/
import Derived.Test.YtimbbfneaaglbaaGreatGHeadsPlays6
import Derived.Test.YtimbbfneaaglbaaGreatGHeadsPlays16
import Derived.Test.YtimbbfneaaglbaaGreatGHeadsPlays7
import Derived.Test.YtimbbfneaaglbaaGreatGHeadsPlays13
namespace Go.Proofs.YtimbbfneaaglbaaGreat.Log
open Go.RowKit Go.Proofs.YtimbbfneaaglbaaGreat.Ints Go.Proofs.YtimbbfneaaglbaaGreat.Mem Go.Proofs.YtimbbfneaaglbaaGreat.SumMath Go.Proofs.YtimbbfneaaglbaaGreat.SumWalks Go.Proofs.YtimbbfneaaglbaaGreat.Trace Go.Proofs.YtimbbfneaaglbaaGreat.Record
open Go.Proofs.YtimbbfneaaglbaaGreat.Lex (nameS)

theorem infoStrL : (Tryz.prog.info? 9).map (fun i => (i.zero, i.size, i.bytes)) = some (some (.string { data := #[] }), 1, 16) := by kernel_rfl
theorem magic_same {zs : List Int} (h : ∀ z ∈ zs, (Lit.int .u8 z).wf = true) : ((strOfNums zs).toList == [87, 71, 76, 1]) = decide (zs = [87, 71, 76, 1]) := by
  have e : (strOfNums [87, 71, 76, 1]).toList = [87, 71, 76, 1] := by kernel_rfl
  have := str_same h (ys := [87, 71, 76, 1]) (by decide)
  rw [e] at this
  exact this
/-- What a call that reads a header leaves. -/
def GotHead (w : World) (b : List Int) (miss : Nat) (e : Ending) (w' : World) : Prop :=
  ∃ A c, e = .returned (.tuple #[.slice A (headD b miss).1.length c, .int .i64 ((headD b miss).2.1 : Nat), .int .i64 ((headD b miss).2.2 : Nat)]) ∧
    w'.ownsRow w.heap.size 9 1 (.slice A (headD b miss).1.length c) (headD b miss).1.length ((headD b miss).1.map strS) ∧ Below w.heap.size w w'
theorem head_none {w w' : World} {b : List Int} {miss n : Nat} (h : headD b miss = ([], 0, n)) (hb : Below w.heap.size w w') :
    GotHead w b miss (.returned (.tuple #[.slice none 0 0, .int .i64 0, .int .i64 (n : Nat)])) w' := by
  unfold GotHead
  rw [h]
  exact ⟨none, 0, rfl, World.ownsRow_nil _ _ _ _, hb⟩
theorem wpList_append_name {P : Program} {w : World} {ops : Array Oper} {rest : List Oper} {o : Oper} {a : Act} {Q : Exit → Act → World → Prop} (hgd : o.guard = none) (s x : Operand) (t : TypeId)
    (ho : o.op = .call { callee := .builtin .append, args := #[s, x], argTypes := #[t, t] }) (base : Nat) (e : TypeId) (i : TypeInfo)
    (ht : P.underlying t = some (.slice e)) (hi : P.info? e = some i) (hz : i.zero = some (.string { data := #[] })) (hsize : i.size = 1) (hby : i.bytes = 16)
    (v : Value) (l : List (List UInt8)) (hs : a.eval s = v) (T : TypeId) (sb : ByteArray) (hown : w.ownsRow base e 1 v l.length (l.map strS))
    (hx : a.eval x = .slice (some ⟨w.heap.size, 0, none⟩) 1 1) (hl : l.length ≤ 100000) (hbase : base ≤ w.heap.size)
    (h : ∀ v' w', w'.ownsRow base e 1 v' (l.length + 1) ((l ++ [sb.data.toList]).map strS) → (w.alloc (.cells #[.string sb] T)).grownBy w' v.ownBlock → wpList P ops Q rest (a.put o.dst v') w') : wpList P ops Q (o :: rest) a (w.alloc (.cells #[.string sb] T)) := by
  refine wpList_append_own _ hgd s x t ho base e i (.string { data := #[] }) 1 16 ht hi hz hsize hby rfl (by decide) v l.length (l.map strS) hs (hown.alloc _) ⟨w.heap.size, 0, none⟩ 1 1 [.string sb] hx rfl (fun j u hu => ?_) (fun u hu => by rw [List.mem_singleton.1 hu]; rfl) (by unfold maxLen; omega) (by omega) (le_alloc hbase) fun v' w' h1 h2 _ => h v' w' ?_ h2
  · rcases j with _ | j
    · simp at hu
      subst hu
      exact box_cell 0 _ rfl
    · simp at hu
  · rw [List.map_append, List.map_singleton, ← str_eta]
    exact h1

set_option maxHeartbeats 8000000 in
set_option maxRecDepth 100000 in
theorem refHead0 (A : Option Addr) (n c : Nat) (zs : List Int) (w : World) (hnc : n ≤ c) (hc : c ≤ maxLen) (h : Rd .u8 w A n zs) :
    Calls Tryz.prog 74 #[.slice A n c, .bool false] w (GotHead w zs 5) := by
  have q63 : maxLen = 9223372036854775807 := rfl
  obtain ⟨i0, hi, hz0, hz1, hz2⟩ := info_parts infoStrL
  have hl := h.len
  have hby := all_u8 h.all
  by_cases h5 : n < 5
  · have h5' : (n : Int) < 5 := by omega
    have hE : headD zs 5 = ([], 0, 5) := by unfold headD; rw [if_pos (by omega)]
    clear h hl hby
    go_enter Tryz.func74, Tryz.ntmps74
    go_wp2
    refine bodyPost_ret (v := .tuple #[.slice none 0 0, .int .i64 0, .int .i64 5]) (by simp [results, Tryz.results74, go_sem]) rfl ?_
    exact head_none hE (Below.refl _ _)
  have h5' : ¬ ((n : Int) < 5) := by omega
  obtain ⟨b, off, rfl, hcell⟩ := h.cell (by omega)
  have x4 := hcell 4 (by omega)
  obtain ⟨hb4, hb4'⟩ := byte_bd hby 4
  rw [hb4'] at x4
  obtain ⟨cnt, hcnt⟩ : ∃ cnt, byteAt zs 4 = cnt := ⟨_, rfl⟩
  rw [hcnt] at x4 hb4
  have h4 := h.take (m := 4) (by omega)
  have hcv := run_str (P := Tryz.prog) (W := w) (c := c) 28 5 9 Tryz.underlying28 Tryz.underlying5 Tryz.underlying9 h4
  have g4 : (4 : Int) ≤ (c : Int) := by omega
  have g5 : (4 : Int) < (n : Int) := by omega
  have hmg := magic_same h4.all
  obtain ⟨sm, hsm⟩ : ∃ sm, strOfNums (zs.take 4) = sm := ⟨_, rfl⟩
  rw [hsm] at hcv hmg
  by_cases hm : zs.take 4 = [87, 71, 76, 1]
  rotate_left
  · have hE : headD zs 5 = ([], 0, 5) := by unfold headD; rw [if_neg (by omega), if_pos (Or.inl hm)]
    rw [decide_eq_false hm] at hmg
    clear h hl hby hcell hcnt hm h4 hsm
    go_enter Tryz.func74, Tryz.ntmps74
    go_wp2
    refine bodyPost_ret (v := .tuple #[.slice none 0 0, .int .i64 0, .int .i64 5]) (by simp [results, Tryz.results74, go_sem]) rfl ?_
    exact head_none hE (Below.refl _ _)
  rw [decide_eq_true hm] at hmg
  by_cases h64 : 64 < cnt
  · have hE : headD zs 5 = ([], 0, 5) := by unfold headD; rw [if_neg (by omega), if_pos (Or.inr (by omega))]
    have h64' : (64 : Int) < (cnt : Int) := by omega
    clear h hl hby hcell hcnt hm h4 hsm
    go_enter Tryz.func74, Tryz.ntmps74
    go_wp2
    refine bodyPost_ret (v := .tuple #[.slice none 0 0, .int .i64 0, .int .i64 5]) (by simp [results, Tryz.results74, go_sem]) rfl ?_
    exact head_none hE (Below.refl _ _)
  have h64' : ¬ ((64 : Int) < (cnt : Int)) := by omega
  have HE := Lib.hid (show headD zs 5 = lastD zs 5 (namesD zs 5 cnt 5 []) by unfold headD; rw [if_neg (by omega), if_neg (fun e => e.elim (fun e => e hm) (fun e => by omega)), hcnt])
  have HB := Lib.hid hby
  have HD := Lib.hid h
  have HL := Lib.hid hl
  have bad : ∀ e : Nat, e ≠ 0 → namesD zs 5 cnt 5 [] = ([], 0, e) → headD zs 5 = ([], 0, e) := fun e he hr => by
    rw [HE.out, hr]
    unfold lastD
    rw [if_pos he]
  have HBAD := Lib.hid bad
  clear h hl hby hcell hcnt hm h4 hsm bad hb4'
  go_enter Tryz.func74, Tryz.ntmps74
  go_wp2_with fail
  go_loopw [8, 9, 34] (fun v q i wr => ∃ (k p : Nat) (acc : List (List UInt8)), k ≤ cnt ∧ i = .int .i64 k ∧ q = .int .i64 p ∧ p ≤ 5 + 17 * k ∧ acc.length = k ∧ wr.ownsRow w.heap.size 9 1 v acc.length (acc.map strS) ∧ Below w.heap.size w wr ∧ Hid (namesD zs 5 (cnt - k) p acc = namesD zs 5 cnt 5 [])) (fun _ _ i _ => cnt - (intOf i).toNat)
  case atStart => exact ⟨0, 5, [], Nat.zero_le _, rfl, rfl, by omega, rfl, World.ownsRow_nil _ _ _ _, Below.refl _ _, rfl⟩
  case round =>
    obtain ⟨k, p, acc, hk, rfl, rfl, hp, hacc, hrow, hBr, hN⟩ := hrel
    clear x4 hcv hmg
    by_cases hkc : k < cnt
    · obtain ⟨d, hd⟩ : ∃ d, cnt - k = d + 1 := ⟨cnt - k - 1, by omega⟩
      rw [hd] at hN
      by_cases hpn : n ≤ p
      · have hE := HBAD.out 5 (by decide) (by rw [← hN.out, namesD_end d (by rw [HL.out]; exact hpn)])
        have hpn' : (p : Int) ≥ (n : Int) := by omega
        clear hrow hd hN hacc
        go_wp2
        refine bodyPost_ret (v := .tuple #[.slice none 0 0, .int .i64 0, .int .i64 5]) (by simp [results, Tryz.results74, go_sem]) rfl ?_
        exact head_none hE hBr
      have hpn' : ¬ ((p : Int) ≥ (n : Int)) := by omega
      have hpn2 : (p : Int) < (n : Int) := by omega
      obtain ⟨b2, off2, e2, hcell⟩ := (HD.out.below hBr).cell (by omega)
      simp only [Option.some.injEq, Addr.mk.injEq, and_true] at e2
      obtain ⟨rfl, rfl⟩ := e2
      have xp := hcell p (by omega)
      obtain ⟨hq1, hq2⟩ := byte_bd HB.out p
      rw [hq2] at xp
      obtain ⟨q, hq⟩ : ∃ q, byteAt zs p = q := ⟨_, rfl⟩
      rw [hq] at xp hq1
      have HQ := Lib.hid hq
      by_cases hqr : q < 1 ∨ 16 < q
      · have hE := HBAD.out 5 (by decide) (by rw [← hN.out, namesD_len d (by rw [HL.out]; omega) (by rw [hq]; exact hqr)])
        by_cases hq0 : (q : Int) < 1
        · have hq0' : decide ((q : Int) < 1) = true := decide_eq_true hq0
          clear hrow hd hN hacc hcell hq2 hq hqr
          go_wp2
          refine bodyPost_ret (v := .tuple #[.slice none 0 0, .int .i64 0, .int .i64 5]) (by simp [results, Tryz.results74, go_sem]) rfl ?_
          exact head_none hE hBr
        · have hq0' : decide ((q : Int) < 1) = false := decide_eq_false hq0
          have hq6' : decide ((q : Int) > 16) = true := decide_eq_true (by omega)
          clear hrow hd hN hacc hcell hq2 hq hqr
          go_wp2
          refine bodyPost_ret (v := .tuple #[.slice none 0 0, .int .i64 0, .int .i64 5]) (by simp [results, Tryz.results74, go_sem]) rfl ?_
          exact head_none hE hBr
      have hq0' : decide ((q : Int) < 1) = false := decide_eq_false (by omega)
      have hq6' : decide ((q : Int) > 16) = false := decide_eq_false (by omega)
      by_cases hsh : n < p + 1 + q
      · have hE := HBAD.out 5 (by decide) (by rw [← hN.out, namesD_short d (by rw [HL.out]; omega) (by rw [hq]; exact hqr) (by rw [HL.out, hq]; exact hsh)])
        have hsh' : (p : Int) + 1 + (q : Int) > (n : Int) := by omega
        clear hrow hd hN hacc hcell hq2 hq hqr
        go_wp2
        refine bodyPost_ret (v := .tuple #[.slice none 0 0, .int .i64 0, .int .i64 5]) (by simp [results, Tryz.results74, go_sem]) rfl ?_
        exact head_none hE hBr
      have hsh' : ¬ ((p : Int) + 1 + (q : Int) > (n : Int)) := by omega
      have hrd := ((HD.out.below hBr).drop (m := p + 1) (by omega)).take (m := q) (by omega)
      have hcv := run_str (P := Tryz.prog) (W := wr) (c := c - (p + 1)) 28 5 9 Tryz.underlying28 Tryz.underlying5 Tryz.underlying9 hrd
      obtain ⟨sb, hsb⟩ : ∃ sb, strOfNums ((zs.drop (p + 1)).take q) = sb := ⟨_, rfl⟩
      rw [hsb] at hcv
      have hsu : toU ((zs.drop (p + 1)).take (byteAt zs p)) = sb.data.toList := by rw [hq, ← hsb, strOfNums_data]; rfl
      have hss : sb.size ≤ 16 := by
        have e : sb.data.toList.length = q := by rw [← hsu, hq]; unfold toU; rw [List.length_map]; exact hrd.len
        have e2 : sb.size = sb.data.toList.length := Array.length_toList.symm
        omega
      have HSU := Lib.hid hsu
      have g6 : (p : Int) + 1 + (q : Int) ≤ (c : Int) := by omega
      have g7 : (p : Int) + 1 ≤ (p : Int) + 1 + (q : Int) := by omega
      have g8 : ¬ c = p + 1 := by omega
      have HROW := Lib.hid hrow
      have HACC := Lib.hid hacc
      obtain ⟨A2, c2, rfl, hc2, hm2, -, -⟩ := own_slice hrow
      obtain ⟨hacl, hstr, -, -⟩ := strs_own hrow
      have FN := Lib.hid (Lex.refName sb wr (by omega))
      have FC := Lib.hid (containsStr A2 acc.length c2 acc sb wr rfl (by omega) hstr)
      have HNO := Lib.hid (show (nameS sb.data.toList = false ∨ sb.data.toList ∈ acc) → namesD zs 5 (d + 1) p acc = ([], 0, 5) from fun h4 => namesD_none d (by rw [HL.out]; omega) (by rw [hq]; exact hqr) (by rw [HL.out, hq]; exact hsh) hsu h4)
      have HNE := Lib.hid (show nameS sb.data.toList = true → sb.data.toList ∉ acc → namesD zs 5 (d + 1) p acc = namesD zs 5 d (p + 1 + q) (acc ++ [sb.data.toList]) from fun h4 h5 => by
        have := namesD_next (miss := 5) d (by rw [HL.out]; omega) (by rw [hq]; exact hqr) (by rw [HL.out, hq]; exact hsh) hsu h4 h5
        rw [hq] at this
        exact this)
      have HDD := Lib.hid hd
      have hsz := hBr.size
      clear hrow hd hacc hq2 hq hcell hrd hsb hsu hstr hacl
      go_wp2_with fail
      rcases hnm : nameS sb.data.toList
      · have hE := HBAD.out 5 (by decide) (by rw [← hN.out]; exact HNO.out (Or.inl hnm))
        have FN2 := Lib.hid (hnm ▸ FN.out)
        clear hnm
        refine FN2.out.mono ?_
        rintro e w2 ⟨rfl, rfl⟩
        go_wp2
        refine bodyPost_ret (v := .tuple #[.slice none 0 0, .int .i64 0, .int .i64 5]) (by simp [results, Tryz.results74, go_sem]) rfl ?_
        exact head_none hE hBr
      · have FN2 := Lib.hid (hnm ▸ FN.out)
        have HNM := Lib.hid hnm
        clear hnm
        refine FN2.out.mono ?_
        rintro e w2 ⟨rfl, rfl⟩
        go_wp2_with fail
        by_cases hin : sb.data.toList ∈ acc
        · have hE := HBAD.out 5 (by decide) (by rw [← hN.out]; exact HNO.out (Or.inr hin))
          have FC2 := Lib.hid (decide_eq_true hin ▸ FC.out)
          clear hin
          refine FC2.out.mono ?_
          rintro e w3 ⟨rfl, rfl⟩
          go_wp2
          refine bodyPost_ret (v := .tuple #[.slice none 0 0, .int .i64 0, .int .i64 5]) (by simp [results, Tryz.results74, go_sem]) rfl ?_
          exact head_none hE hBr
        · have HN2 := Lib.hid (hN.out ▸ (HNE.out HNM.out hin).symm)
          have FC2 := Lib.hid (decide_eq_false hin ▸ FC.out)
          clear hin
          refine FC2.out.mono ?_
          rintro e w3 ⟨rfl, rfl⟩
          go_wp2_with (at_builtin; refine wpList_append_name rfl _ _ 30 rfl w.heap.size 9 i0 Tryz.underlying30 hi hz0 hz1 hz2 (.slice A2 acc.length c2) acc (by rfl) 9 sb HROW.out (by rfl) (by have := HACC.out; omega) hsz ?_; intro v4 w4 hown4 hgr4)
          go_roundw
          case rel =>
            have hdd := HDD.out
            have hacc := HACC.out
            exact ⟨k + 1, p + 1 + q, acc ++ [sb.data.toList], by omega, by go_num, by go_num, by omega, by rw [List.length_append, List.length_singleton, hacc], by rw [List.length_append, List.length_singleton]; exact hown4, (hBr.alloc hsz _).grown hgr4 (le_alloc hsz) (fun z hz => (HROW.out.lt z hz).1), by rw [show cnt - (k + 1) = d by omega]; exact HN2⟩
          case measure => simp [intOf]; omega
    · obtain rfl : k = cnt := by omega
      have hlast : headD zs 5 = lastD zs 5 (acc, p, 0) := by
        rw [HE.out, ← hN.out, Nat.sub_self]
        rfl
      unfold lastD at hlast
      rw [if_neg (fun h => h rfl)] at hlast
      simp only at hlast
      rw [HL.out] at hlast
      by_cases hsh : n < p + 4
      · rw [if_pos hsh] at hlast
        have hsh' : (p : Int) + 4 > (n : Int) := by omega
        clear hrow hacc
        go_wp2
        refine bodyPost_ret (v := .tuple #[.slice none 0 0, .int .i64 0, .int .i64 5]) (by simp [results, Tryz.results74, go_sem]) rfl ?_
        exact head_none hlast hBr
      rw [if_neg hsh] at hlast
      have hsh' : ¬ ((p : Int) + 4 > (n : Int)) := by omega
      have g9 : (p : Int) + 4 ≤ (c : Int) := by omega
      have ht := (HD.out.below hBr).take (m := p + 4) (by omega)
      have FR := (rights_both (some ⟨b, off, none⟩) (p + 4) c (zs.take (p + 4)) wr (by omega) hc (by omega) ht).2 wr ht
      obtain ⟨A2, c2, rfl, hc2, hm2, -, -⟩ := own_slice hrow
      have HROW := Lib.hid hrow
      rcases hse : sealedB (zs.take (p + 4))
      · rw [if_pos hse] at hlast
        unfold AnsR openN at FR
        rw [hse] at FR
        have HR := Lib.hid FR
        clear FR hse ht hrow hacc
        go_wp2_with fail
        refine HR.out.mono ?_
        rintro e w2 ⟨A3, c3, rfl, -, -, -, hB2⟩
        go_wp2
        refine bodyPost_ret (v := .tuple #[.slice none 0 0, .int .i64 0, .int .i64 5]) (by simp [results, Tryz.results74, go_sem]) rfl ?_
        exact head_none hlast (hBr.trans (hB2.mono hBr.size))
      · rw [if_neg (by rw [hse]; decide)] at hlast
        unfold AnsR openN at FR
        rw [hse] at FR
        have HR := Lib.hid FR
        have HLAST := Lib.hid hlast
        clear FR hse ht hrow hacc hlast
        go_wp2_with fail
        refine HR.out.mono ?_
        rintro e w2 ⟨A3, c3, rfl, -, -, -, hB2⟩
        go_wp2
        refine bodyPost_ret (v := .tuple #[.slice A2 acc.length c2, .int .i64 ((p : Int) + 4), .int .i64 0]) (by simp [results, Tryz.results74, go_sem]) rfl ?_
        unfold GotHead
        rw [HLAST.out]
        exact ⟨A2, c2, rfl, below_row HROW.out hB2, hBr.trans (hB2.mono hBr.size)⟩

end Go.Proofs.YtimbbfneaaglbaaGreat.Log

namespace Go.Proofs.YtimbbfneaaglbaaGreat.Log
open Go.RowKit Go.Proofs.YtimbbfneaaglbaaGreat.Ints Go.Proofs.YtimbbfneaaglbaaGreat.Mem Go.Proofs.YtimbbfneaaglbaaGreat.SumMath Go.Proofs.YtimbbfneaaglbaaGreat.SumWalks Go.Proofs.YtimbbfneaaglbaaGreat.Trace Go.Proofs.YtimbbfneaaglbaaGreat.Record

theorem strs_set {W : World} {A : Option Addr} {l : List (List UInt8)} {g : Nat} (h : Strs W A l) (hne : ∀ a, A = some a → a.block ≠ g) (u0 u1 : Value) : Strs ((W.setCell ⟨g, 0, none⟩ u0).setCell ⟨g, 1, none⟩ u1) A l := fun h0 => by
  obtain ⟨b, off, e, hc⟩ := h h0
  refine ⟨b, off, e, fun j s hs => ?_⟩
  rw [Record.set2_cell W g u0 u1 ⟨b, off + j, none⟩ (show b ≠ g from hne _ e)]
  exact hc j s hs
theorem grown_set (w : World) (p : Addr) (u : Value) : w.grownBy (w.setCell p u) (some p.block) :=
  ⟨rfl, rfl, rfl, by simp [World.setCell], fun k _ hne => Below.heap_setCell w p u k (fun e => hne (by rw [e]))⟩
/-- What Decode leaves: the trace, the number of its events, and a number. -/
def GotDec (w : World) (b : List Int) (e : Ending) (w' : World) : Prop :=
  ∃ NA nc EA ec, e = .returned (.tuple #[.agg #[.slice NA (decT b).names.length nc, .slice EA (decT b).events.length ec], .int .i64 ((decT b).events.length : Nat), .int .i64 (decE b : Nat)]) ∧
    TrOk Any w' NA (decT b).names.length nc EA (decT b).events.length ec (decT b) ∧ Below w.heap.size w w'
theorem tr_set {W : World} {NA EA : Option Addr} {nn nc ne ec g : Nat} {t : Tr} (h : TrOk (fun b => g < b) W NA nn nc EA ne ec t) (hN : ∀ a, NA = some a → g < a.block) (u0 u1 : Value) :
    TrOk Any ((W.setCell ⟨g, 0, none⟩ u0).setCell ⟨g, 1, none⟩ u1) NA nn nc EA ne ec t :=
  ⟨h.nlen, h.elen, strs_set h.names (fun a e => by have := hN a e; omega) _ _, h.sizes, (h.evs.keep fun p u hp hu => by rw [Record.set2_cell _ g _ _ _ (by have : g < p.block := hp; omega)]; exact hu).any, h.ncap, h.ecap⟩
/-- The same, with the trace in memory of the call's own. -/
def GotDecN (w : World) (b : List Int) (e : Ending) (w' : World) : Prop :=
  ∃ NA nc EA ec, e = .returned (.tuple #[.agg #[.slice NA (decT b).names.length nc, .slice EA (decT b).events.length ec], .int .i64 ((decT b).events.length : Nat), .int .i64 (decE b : Nat)]) ∧
    TrOk (fun b => w.heap.size ≤ b) w' NA (decT b).names.length nc EA (decT b).events.length ec (decT b) ∧ (∀ a, NA = some a → w.heap.size ≤ a.block) ∧ Below w.heap.size w w'
theorem GotDecN.any {w : World} {b : List Int} {e : Ending} {w' : World} (h : GotDecN w b e w') : GotDec w b e w' := by
  obtain ⟨NA, nc, EA, ec, h1, h2, -, h3⟩ := h
  exact ⟨NA, nc, EA, ec, h1, h2.any, h3⟩
theorem tr_setN {W : World} {NA EA : Option Addr} {nn nc ne ec g : Nat} {t : Tr} (h : TrOk (fun b => g < b) W NA nn nc EA ne ec t) (hN : ∀ a, NA = some a → g < a.block) (u0 u1 : Value) :
    TrOk (fun b => g ≤ b) ((W.setCell ⟨g, 0, none⟩ u0).setCell ⟨g, 1, none⟩ u1) NA nn nc EA ne ec t :=
  ⟨h.nlen, h.elen, strs_set h.names (fun a e => by have := hN a e; omega) _ _, h.sizes, (h.evs.keep fun p u hp hu => by rw [Record.set2_cell _ g _ _ _ (by have : g < p.block := hp; omega)]; exact hu).mono (fun b _ hb => Nat.le_of_lt hb), h.ncap, h.ecap⟩
/-- A trace of the call's own, beside a block that is stored into. -/
theorem tr_grown {B : Nat} {w w' : World} {NA EA : Option Addr} {nn nc ne ec g : Nat} {t : Tr} (h : TrOk (fun b => B ≤ b) w NA nn nc EA ne ec t) (hN : ∀ a, NA = some a → B ≤ a.block) (hg : w.grownBy w' (some g)) (hB : g < B) : TrOk (fun b => B ≤ b) w' NA nn nc EA ne ec t :=
  ⟨h.nlen, h.elen, fun h0 => by
    obtain ⟨b, off, e, hc⟩ := h.names h0
    refine ⟨b, off, e, fun j s hs => ?_⟩
    have h1 := hc j s hs
    have h2 : B ≤ b := hN _ e
    rw [World.cell?_of_block (w := w) (a := ⟨b, off + j, none⟩) (hg.block b (World.block_lt_of_cell? w _ h1) (by simp; omega))]
    exact h1, h.sizes, h.evs.keep fun p u hp hu => by
    have h2 : B ≤ p.block := hp
    rw [World.cell?_of_block (w := w) (a := p) (hg.block p.block (World.block_lt_of_cell? w _ hu) (by simp; omega))]
    exact hu, h.ncap, h.ecap⟩
end Go.Proofs.YtimbbfneaaglbaaGreat.Log
