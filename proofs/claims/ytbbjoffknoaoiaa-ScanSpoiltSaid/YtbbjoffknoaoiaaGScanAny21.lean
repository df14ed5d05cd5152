/-
  The walk of the reference's Head, of bytes that a fault cuts off. Written by wip/tools/genrefhead10.py's variant. By an AI agent.
  Appends of integers at growslice's own bound (more than 2^47 bytes). By an AI agent.
-/
import Derived.Test.YtbbjoffknoaoiaaGScanAny19
import Derived.Test.YtbbjoffknoaoiaaGScanAny1
import Derived.Deep.DeepAppendWide
namespace Go.Proofs.Ytbbjoffknoaoiaa.Log
open Go.RowKit Go.Proofs.Ytbbjoffknoaoiaa.Ints Go.Proofs.Ytbbjoffknoaoiaa.Mem Go.Proofs.Ytbbjoffknoaoiaa.SumMath Go.Proofs.Ytbbjoffknoaoiaa.SumWalks Go.Proofs.Ytbbjoffknoaoiaa.Trace Go.Proofs.Ytbbjoffknoaoiaa.Record
open Go.Proofs.Ytbbjoffknoaoiaa.Lex (nameS)

set_option maxHeartbeats 8000000 in
set_option maxRecDepth 100000 in
theorem refHead1 (A : Option Addr) (n c : Nat) (zs : List Int) (w : World) (hnc : n ≤ c) (hc : c ≤ maxLen) (h : Rd .u8 w A n zs) :
    Calls Try.prog 22 #[.slice A n c, .bool true] w (GotHead w zs 10) := by
  have q63 : maxLen = 9223372036854775807 := rfl
  obtain ⟨i0, hi, hz0, hz1, hz2⟩ := info_parts infoStrL
  have hl := h.len
  have hby := all_u8 h.all
  by_cases h5 : n < 5
  · have h5' : (n : Int) < 5 := by omega
    have hE : headD zs 10 = ([], 0, 10) := by unfold headD; rw [if_pos (by omega)]
    clear h hl hby
    go_enter Try.func22, Try.ntmps22
    go_wp2
    refine bodyPost_ret (v := .tuple #[.slice none 0 0, .int .i64 0, .int .i64 10]) (by simp [results, Try.results22, go_sem]) rfl ?_
    exact head_none hE (Below.refl _ _)
  have h5' : ¬ ((n : Int) < 5) := by omega
  obtain ⟨b, off, rfl, hcell⟩ := h.cell (by omega)
  have x4 := hcell 4 (by omega)
  obtain ⟨hb4, hb4'⟩ := byte_bd hby 4
  rw [hb4'] at x4
  obtain ⟨cnt, hcnt⟩ : ∃ cnt, byteAt zs 4 = cnt := ⟨_, rfl⟩
  rw [hcnt] at x4 hb4
  have h4 := h.take (m := 4) (by omega)
  have hcv := run_str (P := Try.prog) (W := w) (c := c) 22 5 9 Try.underlying22 Try.underlying5 Try.underlying9 h4
  have g4 : (4 : Int) ≤ (c : Int) := by omega
  have g5 : (4 : Int) < (n : Int) := by omega
  have hmg := magic_same h4.all
  obtain ⟨sm, hsm⟩ : ∃ sm, strOfNums (zs.take 4) = sm := ⟨_, rfl⟩
  rw [hsm] at hcv hmg
  by_cases hm : zs.take 4 = [87, 71, 76, 1]
  rotate_left
  · have hE : headD zs 10 = ([], 0, 5) := by unfold headD; rw [if_neg (by omega), if_pos (Or.inl hm)]
    rw [decide_eq_false hm] at hmg
    clear h hl hby hcell hcnt hm h4 hsm
    go_enter Try.func22, Try.ntmps22
    go_wp2
    refine bodyPost_ret (v := .tuple #[.slice none 0 0, .int .i64 0, .int .i64 5]) (by simp [results, Try.results22, go_sem]) rfl ?_
    exact head_none hE (Below.refl _ _)
  rw [decide_eq_true hm] at hmg
  by_cases h64 : 64 < cnt
  · have hE : headD zs 10 = ([], 0, 5) := by unfold headD; rw [if_neg (by omega), if_pos (Or.inr (by omega))]
    have h64' : (64 : Int) < (cnt : Int) := by omega
    clear h hl hby hcell hcnt hm h4 hsm
    go_enter Try.func22, Try.ntmps22
    go_wp2
    refine bodyPost_ret (v := .tuple #[.slice none 0 0, .int .i64 0, .int .i64 5]) (by simp [results, Try.results22, go_sem]) rfl ?_
    exact head_none hE (Below.refl _ _)
  have h64' : ¬ ((64 : Int) < (cnt : Int)) := by omega
  have HE := Lib.hid (show headD zs 10 = lastD zs 10 (namesD zs 10 cnt 5 []) by unfold headD; rw [if_neg (by omega), if_neg (fun e => e.elim (fun e => e hm) (fun e => by omega)), hcnt])
  have HB := Lib.hid hby
  have HD := Lib.hid h
  have HL := Lib.hid hl
  have bad : ∀ e : Nat, e ≠ 0 → namesD zs 10 cnt 5 [] = ([], 0, e) → headD zs 10 = ([], 0, e) := fun e he hr => by
    rw [HE.out, hr]
    unfold lastD
    rw [if_pos he]
  have HBAD := Lib.hid bad
  clear h hl hby hcell hcnt hm h4 hsm bad hb4'
  go_enter Try.func22, Try.ntmps22
  go_wp2_with fail
  go_loopw [8, 9, 34] (fun v q i wr => ∃ (k p : Nat) (acc : List (List UInt8)), k ≤ cnt ∧ i = .int .i64 k ∧ q = .int .i64 p ∧ p ≤ 5 + 17 * k ∧ acc.length = k ∧ wr.ownsRow w.heap.size 9 1 v acc.length (acc.map strS) ∧ Below w.heap.size w wr ∧ Hid (namesD zs 10 (cnt - k) p acc = namesD zs 10 cnt 5 [])) (fun _ _ i _ => cnt - (intOf i).toNat)
  case atStart => exact ⟨0, 5, [], Nat.zero_le _, rfl, rfl, by omega, rfl, World.ownsRow_nil _ _ _ _, Below.refl _ _, rfl⟩
  case round =>
    obtain ⟨k, p, acc, hk, rfl, rfl, hp, hacc, hrow, hBr, hN⟩ := hrel
    clear x4 hcv hmg
    by_cases hkc : k < cnt
    · obtain ⟨d, hd⟩ : ∃ d, cnt - k = d + 1 := ⟨cnt - k - 1, by omega⟩
      rw [hd] at hN
      by_cases hpn : n ≤ p
      · have hE := HBAD.out 10 (by decide) (by rw [← hN.out, namesD_end d (by rw [HL.out]; exact hpn)])
        have hpn' : (p : Int) ≥ (n : Int) := by omega
        clear hrow hd hN hacc
        go_wp2
        refine bodyPost_ret (v := .tuple #[.slice none 0 0, .int .i64 0, .int .i64 10]) (by simp [results, Try.results22, go_sem]) rfl ?_
        exact head_none hE hBr
      have hpn' : ¬ ((p : Int) ≥ (n : Int)) := by omega
      have hpn2 : (p : Int) < (n : Int) := by omega
      obtain ⟨b2, off2, e2, hcell⟩ := (HD.out.below hBr).cell (by omega)
      simp only [Option.some.injEq, Addr.mk.injEq, and_true] at e2
      obtain ⟨rfl, rfl⟩ := e2
      have xp := hcell p (by omega)
      obtain ⟨hq1, hq2⟩ := byte_bd HB.out p
      rw [hq2] at xp
      obtain ⟨q, hq⟩ : ∃ q, byteAt zs p = q := ⟨_, rfl⟩
      rw [hq] at xp hq1
      have HQ := Lib.hid hq
      by_cases hqr : q < 1 ∨ 16 < q
      · have hE := HBAD.out 5 (by decide) (by rw [← hN.out, namesD_len d (by rw [HL.out]; omega) (by rw [hq]; exact hqr)])
        by_cases hq0 : (q : Int) < 1
        · have hq0' : decide ((q : Int) < 1) = true := decide_eq_true hq0
          clear hrow hd hN hacc hcell hq2 hq hqr
          go_wp2
          refine bodyPost_ret (v := .tuple #[.slice none 0 0, .int .i64 0, .int .i64 5]) (by simp [results, Try.results22, go_sem]) rfl ?_
          exact head_none hE hBr
        · have hq0' : decide ((q : Int) < 1) = false := decide_eq_false hq0
          have hq6' : decide ((q : Int) > 16) = true := decide_eq_true (by omega)
          clear hrow hd hN hacc hcell hq2 hq hqr
          go_wp2
          refine bodyPost_ret (v := .tuple #[.slice none 0 0, .int .i64 0, .int .i64 5]) (by simp [results, Try.results22, go_sem]) rfl ?_
          exact head_none hE hBr
      have hq0' : decide ((q : Int) < 1) = false := decide_eq_false (by omega)
      have hq6' : decide ((q : Int) > 16) = false := decide_eq_false (by omega)
      by_cases hsh : n < p + 1 + q
      · have hE := HBAD.out 10 (by decide) (by rw [← hN.out, namesD_short d (by rw [HL.out]; omega) (by rw [hq]; exact hqr) (by rw [HL.out, hq]; exact hsh)])
        have hsh' : (p : Int) + 1 + (q : Int) > (n : Int) := by omega
        clear hrow hd hN hacc hcell hq2 hq hqr
        go_wp2
        refine bodyPost_ret (v := .tuple #[.slice none 0 0, .int .i64 0, .int .i64 10]) (by simp [results, Try.results22, go_sem]) rfl ?_
        exact head_none hE hBr
      have hsh' : ¬ ((p : Int) + 1 + (q : Int) > (n : Int)) := by omega
      have hrd := ((HD.out.below hBr).drop (m := p + 1) (by omega)).take (m := q) (by omega)
      have hcv := run_str (P := Try.prog) (W := wr) (c := c - (p + 1)) 22 5 9 Try.underlying22 Try.underlying5 Try.underlying9 hrd
      obtain ⟨sb, hsb⟩ : ∃ sb, strOfNums ((zs.drop (p + 1)).take q) = sb := ⟨_, rfl⟩
      rw [hsb] at hcv
      have hsu : toU ((zs.drop (p + 1)).take (byteAt zs p)) = sb.data.toList := by rw [hq, ← hsb, strOfNums_data]; rfl
      have hss : sb.size ≤ 16 := by
        have e : sb.data.toList.length = q := by rw [← hsu, hq]; unfold toU; rw [List.length_map]; exact hrd.len
        have e2 : sb.size = sb.data.toList.length := Array.length_toList.symm
        omega
      have HSU := Lib.hid hsu
      have g6 : (p : Int) + 1 + (q : Int) ≤ (c : Int) := by omega
      have g7 : (p : Int) + 1 ≤ (p : Int) + 1 + (q : Int) := by omega
      have g8 : ¬ c = p + 1 := by omega
      have HROW := Lib.hid hrow
      have HACC := Lib.hid hacc
      obtain ⟨A2, c2, rfl, hc2, hm2, -, -⟩ := own_slice hrow
      obtain ⟨hacl, hstr, -, -⟩ := strs_own hrow
      have FN := Lib.hid (Lex.refName sb wr (by omega))
      have FC := Lib.hid (containsStr A2 acc.length c2 acc sb wr rfl (by omega) hstr)
      have HNO := Lib.hid (show (nameS sb.data.toList = false ∨ sb.data.toList ∈ acc) → namesD zs 10 (d + 1) p acc = ([], 0, 5) from fun h4 => namesD_none d (by rw [HL.out]; omega) (by rw [hq]; exact hqr) (by rw [HL.out, hq]; exact hsh) hsu h4)
      have HNE := Lib.hid (show nameS sb.data.toList = true → sb.data.toList ∉ acc → namesD zs 10 (d + 1) p acc = namesD zs 10 d (p + 1 + q) (acc ++ [sb.data.toList]) from fun h4 h5 => by
        have := namesD_next (miss := 10) d (by rw [HL.out]; omega) (by rw [hq]; exact hqr) (by rw [HL.out, hq]; exact hsh) hsu h4 h5
        rw [hq] at this
        exact this)
      have HDD := Lib.hid hd
      have hsz := hBr.size
      clear hrow hd hacc hq2 hq hcell hrd hsb hsu hstr hacl
      go_wp2_with fail
      rcases hnm : nameS sb.data.toList
      · have hE := HBAD.out 5 (by decide) (by rw [← hN.out]; exact HNO.out (Or.inl hnm))
        have FN2 := Lib.hid (hnm ▸ FN.out)
        clear hnm
        refine FN2.out.mono ?_
        rintro e w2 ⟨rfl, rfl⟩
        go_wp2
        refine bodyPost_ret (v := .tuple #[.slice none 0 0, .int .i64 0, .int .i64 5]) (by simp [results, Try.results22, go_sem]) rfl ?_
        exact head_none hE hBr
      · have FN2 := Lib.hid (hnm ▸ FN.out)
        have HNM := Lib.hid hnm
        clear hnm
        refine FN2.out.mono ?_
        rintro e w2 ⟨rfl, rfl⟩
        go_wp2_with fail
        by_cases hin : sb.data.toList ∈ acc
        · have hE := HBAD.out 5 (by decide) (by rw [← hN.out]; exact HNO.out (Or.inr hin))
          have FC2 := Lib.hid (decide_eq_true hin ▸ FC.out)
          clear hin
          refine FC2.out.mono ?_
          rintro e w3 ⟨rfl, rfl⟩
          go_wp2
          refine bodyPost_ret (v := .tuple #[.slice none 0 0, .int .i64 0, .int .i64 5]) (by simp [results, Try.results22, go_sem]) rfl ?_
          exact head_none hE hBr
        · have HN2 := Lib.hid (hN.out ▸ (HNE.out HNM.out hin).symm)
          have FC2 := Lib.hid (decide_eq_false hin ▸ FC.out)
          clear hin
          refine FC2.out.mono ?_
          rintro e w3 ⟨rfl, rfl⟩
          go_wp2_with (at_builtin; refine wpList_append_name rfl _ _ 31 rfl w.heap.size 9 i0 Try.underlying31 hi hz0 hz1 hz2 (.slice A2 acc.length c2) acc (by rfl) 9 sb HROW.out (by rfl) (by have := HACC.out; omega) hsz ?_; intro v4 w4 hown4 hgr4)
          go_roundw
          case rel =>
            have hdd := HDD.out
            have hacc := HACC.out
            exact ⟨k + 1, p + 1 + q, acc ++ [sb.data.toList], by omega, by go_num, by go_num, by omega, by rw [List.length_append, List.length_singleton, hacc], by rw [List.length_append, List.length_singleton]; exact hown4, (hBr.alloc hsz _).grown hgr4 (le_alloc hsz) (fun z hz => (HROW.out.lt z hz).1), by rw [show cnt - (k + 1) = d by omega]; exact HN2⟩
          case measure => simp [intOf]; omega
    · obtain rfl : k = cnt := by omega
      have hlast : headD zs 10 = lastD zs 10 (acc, p, 0) := by
        rw [HE.out, ← hN.out, Nat.sub_self]
        rfl
      unfold lastD at hlast
      rw [if_neg (fun h => h rfl)] at hlast
      simp only at hlast
      rw [HL.out] at hlast
      by_cases hsh : n < p + 4
      · rw [if_pos hsh] at hlast
        have hsh' : (p : Int) + 4 > (n : Int) := by omega
        clear hrow hacc
        go_wp2
        refine bodyPost_ret (v := .tuple #[.slice none 0 0, .int .i64 0, .int .i64 10]) (by simp [results, Try.results22, go_sem]) rfl ?_
        exact head_none hlast hBr
      rw [if_neg hsh] at hlast
      have hsh' : ¬ ((p : Int) + 4 > (n : Int)) := by omega
      have g9 : (p : Int) + 4 ≤ (c : Int) := by omega
      have ht := (HD.out.below hBr).take (m := p + 4) (by omega)
      have FR := (rights_both (some ⟨b, off, none⟩) (p + 4) c (zs.take (p + 4)) wr (by omega) hc (by omega) ht).2 wr ht
      obtain ⟨A2, c2, rfl, hc2, hm2, -, -⟩ := own_slice hrow
      have HROW := Lib.hid hrow
      rcases hse : sealedB (zs.take (p + 4))
      · rw [if_pos hse] at hlast
        unfold AnsR openN at FR
        rw [hse] at FR
        have HR := Lib.hid FR
        clear FR hse ht hrow hacc
        go_wp2_with fail
        refine HR.out.mono ?_
        rintro e w2 ⟨A3, c3, rfl, -, -, -, hB2⟩
        go_wp2
        refine bodyPost_ret (v := .tuple #[.slice none 0 0, .int .i64 0, .int .i64 5]) (by simp [results, Try.results22, go_sem]) rfl ?_
        exact head_none hlast (hBr.trans (hB2.mono hBr.size))
      · rw [if_neg (by rw [hse]; decide)] at hlast
        unfold AnsR openN at FR
        rw [hse] at FR
        have HR := Lib.hid FR
        have HLAST := Lib.hid hlast
        clear FR hse ht hrow hacc hlast
        go_wp2_with fail
        refine HR.out.mono ?_
        rintro e w2 ⟨A3, c3, rfl, -, -, -, hB2⟩
        go_wp2
        refine bodyPost_ret (v := .tuple #[.slice A2 acc.length c2, .int .i64 ((p : Int) + 4), .int .i64 0]) (by simp [results, Try.results22, go_sem]) rfl ?_
        unfold GotHead
        rw [HLAST.out]
        exact ⟨A2, c2, rfl, below_row HROW.out hB2, hBr.trans (hB2.mono hBr.size)⟩

end Go.Proofs.Ytbbjoffknoaoiaa.Log

namespace Go.Proofs.Ytbbjoffknoaoiaa.Ints
open Go.RowKit
section
variable {P : Program} {w : World}
/-- 'append(v, xs...)': v is the call's own, xs reads as numbers; at growslice's own bound. -/
theorem run_append_ints_wide (k : IntKind) (base : Nat) (t ty e : TypeId) (i : TypeInfo) (bytes : Nat) (ht : P.underlying t = some (.slice e)) (hi : P.info? e = some i) (hz : i.zero = some (.int k 0))
    (hsize : i.size = 1) (hby : i.bytes = bytes) (v : Value) (n : Nat) (zs : List Int) (hown : w.ownsRow base e 1 v n (zs.map (Value.int k)))
    (A : Option Addr) (m c : Nat) (ys : List Int) (hr : Rd k w A m ys) (h63 : n + m ≤ maxLen) (hbytes : ((n + m) + (n + m) / 4 + 192) * bytes ≤ 281474976710656) (hbase : base ≤ w.heap.size) :
    ∃ v' w', (Builtin.append_ #[t, t] ty #[v, .slice A m c]).run P w = .ok v' w' ∧ w'.ownsRow base e 1 v' (n + m) ((zs ++ ys).map (Value.int k)) ∧ w.grownBy w' v.ownBlock := by
  cases A with
  | some ad =>
    have hnews : ∀ j u, (ys.map (Value.int k))[j]? = some u → w.cell? (ad.add j) = some u := fun j u hu => by
      have hj : j < ys.length := by
        rcases Nat.lt_or_ge j ys.length with h | h
        · exact h
        · simp [List.getElem?_eq_none h] at hu
      obtain ⟨b, off, e, hc⟩ := hr.cell (by have := hr.len; omega)
      injection e with e
      subst e
      have h1 := hc j (by have := hr.len; omega)
      have h2 : (⟨b, off, none⟩ : Addr).add j = ⟨b, off + j, none⟩ := by unfold Addr.add; split <;> simp_all
      rw [h2, h1]
      simpa [List.getElem?_eq_getElem hj] using hu
    obtain ⟨v', w', hrun, ho, hg, _⟩ := run_append_own_wide (P := P) w base t ty e i (.int k 0) 1 bytes ht hi hz hsize hby rfl (by decide) v n _ hown ad m c (ys.map (Value.int k)) (by simp [hr.len]) hnews (one_cell k ys) h63 hbytes hbase
    exact ⟨v', w', hrun, by rw [List.map_append]; exact ho, hg⟩
  | none =>
    have hm : m = 0 := by
      rcases Nat.eq_zero_or_pos m with h | h
      · exact h
      · obtain ⟨_, _, h', _⟩ := hr.cell h
        cases h'
    subst hm
    have hy : ys = [] := List.eq_nil_of_length_eq_zero hr.len
    subst hy
    refine ⟨v, w, ?_, by simpa using hown, World.grownBy.refl w _⟩
    rcases hown.2 with ⟨rfl, rfl⟩ | ⟨g, cap, cur, rfl, _, _, hnc, _⟩
    · simp [Builtin.append_, run_underlying ht, sizeOf, typeInfo, hi, Builtin.lenOf, Builtin.firstCells]
    · simp [Builtin.append_, run_underlying ht, sizeOf, typeInfo, hi, Builtin.lenOf, Builtin.firstCells, hnc, storeCells]
theorem wpList_append_ints_wide {ops : Array Oper} {rest : List Oper} {o : Oper} {a : Act} {Q : Exit → Act → World → Prop} (hgd : o.guard = none) (s x : Operand) (t : TypeId)
    (ho : o.op = .call { callee := .builtin .append, args := #[s, x], argTypes := #[t, t] }) (k : IntKind) (base : Nat) (e : TypeId) (i : TypeInfo) (bytes : Nat)
    (ht : P.underlying t = some (.slice e)) (hi : P.info? e = some i) (hz : i.zero = some (.int k 0)) (hsize : i.size = 1) (hby : i.bytes = bytes)
    (v : Value) (n : Nat) (zs : List Int) (hs : a.eval s = v) (hown : w.ownsRow base e 1 v n (zs.map (Value.int k)))
    (A : Option Addr) (m c : Nat) (ys : List Int) (hx : a.eval x = .slice A m c) (hr : Rd k w A m ys)
    (h63 : n + m ≤ maxLen) (hbytes : ((n + m) + (n + m) / 4 + 192) * bytes ≤ 281474976710656) (hbase : base ≤ w.heap.size)
    (h : ∀ v' w', w'.ownsRow base e 1 v' (n + m) ((zs ++ ys).map (Value.int k)) → w.grownBy w' v.ownBlock → wpList P ops Q rest (a.put o.dst v') w') : wpList P ops Q (o :: rest) a w := by
  refine wpList_plain hgd fun K hK => ?_
  obtain ⟨v', w', hrun, h1, h2⟩ := run_append_ints_wide (P := P) k base t o.type e i bytes ht hi hz hsize hby v n zs hown A m c ys hr h63 hbytes hbase
  unfold Oper.wp
  simp [execOp, ho, resolve, invoke, builtin, hs, hx, hrun, Result.andThen]
  exact hK _ _ (h v' w' h1 h2)
end
end Go.Proofs.Ytbbjoffknoaoiaa.Ints
