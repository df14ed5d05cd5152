/-
  The landed header reader, as plain lists: what stands where a header has its names; bytes begin with a header just if these names' header is what they begin with. By an AI agent.
  The walk of the landed names (package log): what stands where a header has its names. By an AI agent.
-/
import Derived.Test.YtimbbfneaaglbaaGHeadsApart21
import Derived.Test.YtimbbfneaaglbaaGHeadsApart15
namespace Go.Proofs.Ytimbbfneaaglbaa.Log
open Go.Proofs.Ytimbbfneaaglbaa.Ints Go.Proofs.Ytimbbfneaaglbaa.SumMath Go.Proofs.Ytimbbfneaaglbaa.SumWalks Go.Proofs.Ytimbbfneaaglbaa.Trace Go.Proofs.Ytimbbfneaaglbaa.Record
open Go.Proofs.Ytimbbfneaaglbaa.Lex (nameS)

/-- So many texts as there are, or as bytes have whole. -/
def readN : Nat → List Int → List (List UInt8)
  | 0, _ => []
  | k + 1, b => if b.length ≤ byteAt b 0 then [] else toU ((b.drop 1).take (byteAt b 0)) :: readN k (b.drop (1 + byteAt b 0))
def namesL (b : List Int) : List (List UInt8) := if b.length ≤ 4 then [] else readN (byteAt b 4) (b.drop 5)
theorem readN_stop {b : List Int} (k : Nat) (h : b.length ≤ byteAt b 0) : readN k b = [] := by
  cases k with
  | zero => rfl
  | succ k => rw [readN, if_pos h]
theorem readN_next {b : List Int} (k : Nat) (h : ¬ b.length ≤ byteAt b 0) : readN (k + 1) b = toU ((b.drop 1).take (byteAt b 0)) :: readN k (b.drop (1 + byteAt b 0)) := by rw [readN, if_neg h]
theorem readN_len (k : Nat) : ∀ b, (readN k b).length ≤ k := by
  induction k with
  | zero => intro b; exact Nat.le_refl _
  | succ k ih =>
    intro b
    rw [readN]
    split
    · exact Nat.zero_le _
    · rw [List.length_cons]
      exact Nat.succ_le_succ (ih _)
theorem byte_le {b : List Int} (hb : ∀ z ∈ b, 0 ≤ z ∧ z ≤ 255) (i : Nat) : byteAt b i ≤ 255 := (byte_bd hb i).1
theorem readN_sizes (k : Nat) : ∀ b : List Int, (∀ z ∈ b, 0 ≤ z ∧ z ≤ 255) → ∀ s ∈ readN k b, s.length ≤ 255 := by
  induction k with
  | zero => intro b _ s hs; cases hs
  | succ k ih =>
    intro b hb s hs
    rw [readN] at hs
    split at hs
    · cases hs
    · rcases List.mem_cons.1 hs with rfl | h
      · have := byte_le hb 0
        unfold toU
        rw [List.length_map, List.length_take]
        omega
      · exact ih _ (fun z hz => hb z (List.mem_of_mem_drop hz)) s h
theorem names_sizes {b : List Int} (hb : ∀ z ∈ b, 0 ≤ z ∧ z ≤ 255) : (namesL b).length ≤ 255 ∧ ∀ s ∈ namesL b, s.length ≤ 255 := by
  unfold namesL
  split
  · exact ⟨by decide, fun s hs => by cases hs⟩
  · refine ⟨Nat.le_trans (readN_len _ _) (byte_le hb 4), fun s hs => readN_sizes _ _ (fun z hz => hb z (List.mem_of_mem_drop hz)) s hs⟩
theorem readN_enc (rest : List Int) : ∀ names : List (List UInt8), (∀ s ∈ names, s.length ≤ 255) → readN names.length (names.flatMap nameB ++ rest) = names := by
  intro names
  induction names with
  | nil => intro _; rfl
  | cons s l ih =>
    intro h
    have hs := h s (List.mem_cons_self ..)
    obtain ⟨b, hb⟩ : ∃ b, (s :: l).flatMap nameB ++ rest = b := ⟨_, rfl⟩
    have hb2 : b = (s.length : Int) :: (toI s ++ (l.flatMap nameB ++ rest)) := by
      rw [← hb, List.flatMap_cons]
      unfold nameB
      rw [show ((s.length : Int) % 256) = s.length by omega]
      simp
    have e0 : byteAt b 0 = s.length := by rw [hb2]; simp [byteAt]
    have ht := toI_len s
    rw [hb, List.length_cons, readN_next _ (by rw [e0, hb2, List.length_cons, List.length_append]; omega), e0]
    have e1 : (b.drop 1).take s.length = toI s := by
      rw [hb2, List.drop_succ_cons, List.drop_zero, ← ht, List.take_left]
    have e2 : b.drop (1 + s.length) = l.flatMap nameB ++ rest := by
      rw [hb2, Nat.add_comm, List.drop_succ_cons, ← ht, List.drop_left]
    rw [e1, e2, toU_toI, ih fun x hx => h x (List.mem_cons_of_mem _ hx)]
theorem names_enc {names : List (List UInt8)} (h : namesOk names = true) (rest : List Int) : namesL (headL names ++ rest) = names := by
  have h64 := ((namesOk_iff names).1 h).1
  obtain ⟨b, hb⟩ : ∃ b, headL names ++ rest = b := ⟨_, rfl⟩
  have hb2 : b = [87, 71, 76, 1, (names.length : Int)] ++ (names.flatMap nameB ++ (be4 (adn 1 (frontL names)) ++ rest)) := by
    rw [← hb]
    have e : frontL names = [87, 71, 76, 1, (names.length : Int)] ++ names.flatMap nameB := by unfold frontL; rw [show ((names.length : Int) % 256) = names.length by omega]
    obtain ⟨x, hx⟩ : ∃ x, be4 (adn 1 (frontL names)) = x := ⟨_, rfl⟩
    unfold headL
    rw [hx, e]
    simp
  rw [hb]
  unfold namesL
  have e4 : byteAt b 4 = names.length := by rw [hb2]; simp [byteAt]
  have e5 : b.drop 5 = names.flatMap nameB ++ (be4 (adn 1 (frontL names)) ++ rest) := by rw [hb2]; rfl
  rw [if_neg (by rw [hb2]; simp), e4, e5]
  exact readN_enc _ names fun s hs => by have := (names_le h s hs).2; omega
theorem head_miss {b : List Int} (h : (headD b 5).2.2 ≠ 0) : headD b 5 = ([], 0, 5) := by
  have hn : ∀ k p acc, (namesD b 5 k p acc).2.2 ≠ 0 → (namesD b 5 k p acc).2.2 = 5 := by
    intro k
    induction k with
    | zero => intro p acc h; exact absurd rfl h
    | succ k ih =>
      intro p acc h
      rw [namesD] at h ⊢
      split
      · rfl
      · rename_i h1
        rw [if_neg h1] at h
        split
        · rfl
        · rename_i h2
          rw [if_neg h2] at h
          split
          · rfl
          · rename_i h3
            rw [if_neg h3] at h
            split
            · rfl
            · rename_i h4
              rw [if_neg h4] at h
              exact ih _ _ h
  unfold headD lastD at h ⊢
  split
  · rfl
  · rename_i h1
    rw [if_neg h1] at h
    split
    · rfl
    · rename_i h2
      rw [if_neg h2] at h
      split
      · rename_i h3
        rw [hn _ _ _ h3]
      · rename_i h3
        rw [if_neg h3] at h
        split
        · rfl
        · rename_i h4
          rw [if_neg h4] at h
          split
          · rfl
          · rename_i h5
            rw [if_neg h5] at h
            exact absurd rfl h
theorem land_ok {b : List Int} (h : namesOk (namesL b) = true) (hp : b.take (headL (namesL b)).length = headL (namesL b)) : headD b 5 = (namesL b, (headL (namesL b)).length, 0) := by
  obtain ⟨l, hl⟩ : ∃ l, namesL b = l := ⟨_, rfl⟩
  rw [hl] at h hp ⊢
  have e : b = headL l ++ b.drop (headL l).length := by
    have := (List.take_append_drop (headL l).length b).symm
    rwa [hp] at this
  rw [e]
  exact head_enc h _ 5
theorem land_bad {b : List Int} (hb : ∀ z ∈ b, 0 ≤ z ∧ z ≤ 255) (h : namesOk (namesL b) = true → b.take (headL (namesL b)).length ≠ headL (namesL b)) : headD b 5 = ([], 0, 5) := by
  by_cases h0 : (headD b 5).2.2 = 0
  · exfalso
    obtain ⟨k1, k2⟩ := head_all hb (by decide) h0
    have hn := headD_names (by decide) h0
    obtain ⟨l, hl⟩ : ∃ l, (headD b 5).1 = l := ⟨_, rfl⟩
    rw [hl] at k1 k2 hn
    have e : namesL b = l := by rw [k1]; exact names_enc hn _
    rw [e] at h
    refine h hn ?_
    rw [k2] at k1
    rw [k1, List.take_left]
  · exact head_miss h0
end Go.Proofs.Ytimbbfneaaglbaa.Log

namespace Go.Proofs.Ytimbbfneaaglbaa.Log
open Go.RowKit Go.Proofs.Ytimbbfneaaglbaa.Ints Go.Proofs.Ytimbbfneaaglbaa.Mem Go.Proofs.Ytimbbfneaaglbaa.SumMath Go.Proofs.Ytimbbfneaaglbaa.SumWalks Go.Proofs.Ytimbbfneaaglbaa.Trace Go.Proofs.Ytimbbfneaaglbaa.Record

set_option maxRecDepth 100000 in
theorem slice_mid {P : Program} (t : TypeId) (ht : P.underlying t = some (.slice (P.elem t))) (size : Nat) (hs : (P.info? (P.elem t)).map (·.size) = some size) (A : Option Addr) (n cap k m : Nat) (hk : k ≤ m) (hm : m ≤ cap) (W : World) :
    (Instr.slice t (.slice A n cap) (some (.int .i64 (k : Int))) (some (.int .i64 (m : Int))) none).run P W = .ok (.slice (fromAddr A cap k size) (m - k) (cap - k)) W := by
  rw [run_slice_lh W t A n cap ht .i64 .i64 (k : Int) (m : Int) (by omega) (by omega) (by omega)]
  obtain ⟨i, hi, hz⟩ := Option.map_eq_some_iff.1 hs
  simp [sizeOf, typeInfo, hi, hz, Result.andThen, sliced, fromAddr]
/-- Bytes from a place on, wherever they stand. -/
theorem rd_from {w : World} {A : Option Addr} {n c p : Nat} {zs : List Int} (h : Rd .u8 w A n zs) (hnc : n ≤ c) (hp : p ≤ n) (hn : 0 < n) : Rd .u8 w (fromAddr A c p 1) (n - p) (zs.drop p) := by
  obtain ⟨b, off, rfl, -⟩ := h.cell hn
  have hd := h.drop hp
  unfold fromAddr
  split
  · have e : n - p = 0 := by omega
    rw [e] at hd ⊢
    rw [List.eq_nil_of_length_eq_zero hd.len]
    exact Rd.nil _ _ _
  · have e : (⟨b, off, none⟩ : Addr).add (p * 1) = ⟨b, off + p, none⟩ := by unfold Addr.add; split <;> simp_all
    show Rd .u8 w (some ((⟨b, off, none⟩ : Addr).add (p * 1))) _ _
    rw [e]
    exact hd
theorem byte_drop (zs : List Int) (p : Nat) : byteAt (zs.drop p) 0 = byteAt zs p := by unfold byteAt; rw [List.getElem?_drop, Nat.add_zero]

set_option maxHeartbeats 8000000 in
set_option maxRecDepth 100000 in
theorem landNamesOf (A : Option Addr) (n c : Nat) (zs : List Int) (w : World) (hnc : n ≤ c) (hc : c ≤ maxLen) (h : Rd .u8 w A n zs) :
    Calls Try.prog 60 #[.slice A n c] w fun e w' => ∃ A' c', e = .returned (.slice A' (namesL zs).length c') ∧ w'.ownsRow w.heap.size 9 1 (.slice A' (namesL zs).length c') (namesL zs).length ((namesL zs).map strS) ∧ Below w.heap.size w w' := by
  have q63 : maxLen = 9223372036854775807 := rfl
  obtain ⟨i0, hi, hz0, hz1, hz2⟩ := info_parts infoStrL
  have hl := h.len
  have hby := all_u8 h.all
  by_cases h4 : n ≤ 4
  · have h4' : (n : Int) ≤ 4 := by omega
    have hE : namesL zs = [] := by unfold namesL; rw [if_pos (by omega)]
    rw [hE]
    clear h hl hby
    go_enter Try.func60, Try.ntmps60
    go_wp2
    go_ret
    exact ⟨none, 0, rfl, World.ownsRow_nil _ _ _ _, Below.refl _ _⟩
  have h4' : ¬ ((n : Int) ≤ 4) := by omega
  have h4n : (4 : Int) < (n : Int) := by omega
  obtain ⟨b, off, rfl, hcell⟩ := h.cell (by omega)
  have x4 := hcell 4 (by omega)
  obtain ⟨hb4, hb4'⟩ := byte_bd hby 4
  rw [hb4'] at x4
  obtain ⟨most, hmost⟩ : ∃ m, byteAt zs 4 = m := ⟨_, rfl⟩
  rw [hmost] at x4 hb4
  have hsl := fun W => slice_from (P := Try.prog) 36 (by kernel_rfl) 1 (by kernel_rfl) (some ⟨b, off, none⟩) n c 5 (by omega) W
  obtain ⟨A5, hA5⟩ : ∃ A5, fromAddr (some ⟨b, off, none⟩) c 5 1 = A5 := ⟨_, rfl⟩
  have hrd5 : Rd .u8 w A5 (n - 5) (zs.drop 5) := by rw [← hA5]; exact rd_from h hnc (by omega) (by omega)
  have hsl : ∀ W, (Instr.slice 36 (.slice (some ⟨b, off, none⟩) n c) (some (.int .i64 5)) none none).run Try.prog W = .ok (.slice A5 (n - 5) (c - 5)) W := by rw [← hA5]; exact hsl
  have HE := Lib.hid (show namesL zs = readN most (zs.drop 5) by unfold namesL; rw [if_neg (by omega), hmost])
  obtain ⟨R, hR⟩ : ∃ R, namesL zs = R := ⟨_, rfl⟩
  rw [hR] at HE ⊢
  have HRD := Lib.hid hrd5
  have HBY := Lib.hid hby
  clear h hl hby hcell hmost hA5 hrd5 hR hb4'
  go_enter Try.func60, Try.ntmps60
  go_wp2
  go_loopw [0, 4] (fun q v wr => ∃ (p : Nat) (B : Option Addr) (acc : List (List UInt8)), q = .slice B (n - p) (c - p) ∧ 5 ≤ p ∧ p ≤ n ∧ acc.length ≤ most ∧ Rd .u8 w B (n - p) (zs.drop p) ∧ wr.ownsRow w.heap.size 9 1 v acc.length (acc.map strS) ∧ Below w.heap.size w wr ∧ Hid (acc ++ readN (most - acc.length) (zs.drop p) = R)) (fun q _ _ => (match q with | .slice _ m _ => m | _ => 0))
  case atStart => exact ⟨5, A5, [], rfl, Nat.le_refl _, by omega, Nat.zero_le _, HRD.out, own_lit w w.heap.size 9 .u8 [] 0 rfl (by decide) (Nat.le_refl _), (Below.refl _ _).alloc (Nat.le_refl _) _, by rw [HE.out]; rfl⟩
  case round =>
    obtain ⟨p, B, acc, rfl, hp5, hpn, hacc, hrd, hrow, hBr, hN⟩ := hrel
    obtain ⟨m, hm⟩ : ∃ m, n - p = m := ⟨_, rfl⟩
    obtain ⟨d, hd⟩ : ∃ d, c - p = d := ⟨_, rfl⟩
    have hmd : m ≤ d := by omega
    have hdm : d ≤ maxLen := by omega
    rw [hm] at hrd ⊢
    rw [hd]
    obtain ⟨A2, c2, rfl, hc2, hm2, -, -⟩ := own_slice hrow
    have hin : (acc.length : Int) ≤ 255 := by omega
    by_cases hk : acc.length < most
    rotate_left
    · have hk' : ¬ ((acc.length : Int) < (most : Int)) := by omega
      have HR := Lib.hid (show acc = R by rw [← hN.out, show most - acc.length = 0 by omega]; simp [readN])
      have HRW := Lib.hid hrow
      clear x4 hsl hrd hrow hN
      go_wp2
      go_ret
      rw [← HR.out]
      exact ⟨A2, c2, rfl, HRW.out, hBr⟩
    have hk' : (acc.length : Int) < (most : Int) := by omega
    by_cases hm0 : m = 0
    · subst hm0
      have HR : Hid (acc = R) := by
        have e : zs.drop p = [] := List.eq_nil_of_length_eq_zero hrd.len
        show acc = R
        rw [← hN.out, e, readN_stop _ (by simp)]; simp
      have HRW := Lib.hid hrow
      clear x4 hsl hrd hrow hN
      go_wp2
      go_ret
      rw [← HR.out]
      exact ⟨A2, c2, rfl, HRW.out, hBr⟩
    have hm0' : (0 : Int) < (m : Int) := by omega
    obtain ⟨b2, off2, rfl, hcell⟩ := (hrd.below hBr).cell (by omega)
    have x0 := hcell 0 (by omega)
    have hzl := hrd.len
    obtain ⟨y, hy⟩ : ∃ y, zs.drop p = y := ⟨_, rfl⟩
    rw [hy] at hrd hN x0 hzl
    have hyb : ∀ z ∈ y, 0 ≤ z ∧ z ≤ 255 := fun z hz => HBY.out z (by rw [← hy] at hz; exact List.mem_of_mem_drop hz)
    obtain ⟨hq1, hq2⟩ := byte_bd hyb 0
    rw [hq2] at x0
    obtain ⟨q, hq⟩ : ∃ q, byteAt y 0 = q := ⟨_, rfl⟩
    rw [hq] at x0 hq1
    rw [Nat.add_zero] at x0
    by_cases hmq : m ≤ q
    · have hmq' : ¬ ((m : Int) > (q : Int)) := by omega
      have HR : Hid (acc = R) := by
        show acc = R
        rw [← hN.out, readN_stop _ (by rw [hzl, hq]; exact hmq)]; simp
      have HRW := Lib.hid hrow
      clear x4 hsl hrd hrow hN hcell hyb hq2 hq hy
      go_wp2
      go_ret
      rw [← HR.out]
      exact ⟨A2, c2, rfl, HRW.out, hBr⟩
    have hmq' : (m : Int) > (q : Int) := by omega
    have hs1 : ∀ W, (Instr.slice 36 (.slice (some ⟨b2, off2, none⟩) m d) (some (.int .i64 1)) (some (.int .i64 (1 + (q : Int)))) none).run Try.prog W = .ok (.slice (fromAddr (some ⟨b2, off2, none⟩) d 1 1) q (d - 1)) W := fun W => by
      have := slice_mid (P := Try.prog) 36 (by kernel_rfl) 1 (by kernel_rfl) (some ⟨b2, off2, none⟩) m d 1 (1 + q) (by omega) (by omega) W
      rw [show 1 + q - 1 = q by omega, show ((1 + q : Nat) : Int) = 1 + (q : Int) by omega] at this
      exact this
    have hs2 : ∀ W, (Instr.slice 36 (.slice (some ⟨b2, off2, none⟩) m d) (some (.int .i64 (1 + (q : Int)))) none none).run Try.prog W = .ok (.slice (fromAddr (some ⟨b2, off2, none⟩) d (1 + q) 1) (m - (1 + q)) (d - (1 + q))) W := fun W => by
      have := slice_from (P := Try.prog) 36 (by kernel_rfl) 1 (by kernel_rfl) (some ⟨b2, off2, none⟩) m d (1 + q) (by omega) W
      rw [show ((1 + q : Nat) : Int) = 1 + (q : Int) by omega] at this
      exact this
    have hr1 := (rd_from (p := 1) hrd hmd (by omega) (by omega)).take (m := q) (by omega)
    have hr2 := rd_from (p := 1 + q) hrd hmd (by omega) (by omega)
    obtain ⟨A6, hA6⟩ : ∃ A6, fromAddr (some ⟨b2, off2, none⟩) d 1 1 = A6 := ⟨_, rfl⟩
    obtain ⟨A7, hA7⟩ : ∃ A7, fromAddr (some ⟨b2, off2, none⟩) d (1 + q) 1 = A7 := ⟨_, rfl⟩
    rw [hA6] at hs1 hr1
    rw [hA7] at hs2 hr2
    have hcv := run_str (P := Try.prog) (W := wr) (c := d - 1) 36 5 9 Try.underlying36 Try.underlying5 Try.underlying9 (hr1.below hBr)
    have HNX := Lib.hid (show R = (acc ++ [toU ((y.drop 1).take q)]) ++ readN (most - (acc.length + 1)) (y.drop (1 + q)) by
      have e : most - acc.length = most - (acc.length + 1) + 1 := by omega
      rw [← hN.out, e, readN_next _ (by rw [hzl, hq]; omega), hq, List.append_assoc]
      rfl)
    obtain ⟨sb, hsb⟩ : ∃ sb, strOfNums ((y.drop 1).take q) = sb := ⟨_, rfl⟩
    have hsu : toU ((y.drop 1).take q) = sb.data.toList := by rw [← hsb, strOfNums_data]; rfl
    rw [hsb] at hcv
    rw [hsu] at HNX
    have HROW := Lib.hid hrow
    have HR2 := Lib.hid hr2
    have HY := Lib.hid hy
    have hsz := hBr.size
    have hq3 : (1 : Int) + (q : Int) ≤ 256 := by omega
    clear x4 hsl hrow hN hcell hyb hq2 hq hy hr1 hr2 hrd hsb hsu hzl hA6 hA7
    go_wp2_with (at_builtin; refine wpList_append_name rfl _ _ 27 rfl w.heap.size 9 i0 Try.underlying27 hi hz0 hz1 hz2 (.slice A2 acc.length c2) acc (by rfl) 9 sb HROW.out (by rfl) (by omega) hsz ?_; intro v4 w4 hown4 hgr4)
    go_roundw
    case rel =>
      have hB4 := (hBr.alloc hsz (.cells #[.string sb] 9)).grown hgr4 (le_alloc hsz) (fun z hz => (HROW.out.lt z hz).1)
      have e4 : (acc ++ [sb.data.toList]).length = acc.length + 1 := by rw [List.length_append]; rfl
      refine ⟨p + (1 + q), A7, acc ++ [sb.data.toList], by rw [← hm, ← hd, Nat.sub_sub, Nat.sub_sub], by omega, by omega, by omega, ?_, by rw [e4]; exact hown4, hB4, ?_⟩
      · have := HR2.out
        rw [← HY.out, List.drop_drop, ← hm, Nat.sub_sub] at this
        exact this
      · rw [e4, ← List.drop_drop, HY.out]
        exact HNX.out.symm
    case measure => simp; omega
end Go.Proofs.Ytimbbfneaaglbaa.Log
