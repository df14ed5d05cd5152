/-
  P10.4 as plain lists: Decode of Encode is the trace; what is decoded whole is what Encode writes. By an AI agent.
  The law's awake: the log of no names and no events. By an AI agent.
-/
import Derived.Test.YtgfifjcecpllbaaGLogEncodes9
import Derived.Test.YtgfifjcecpllbaaGLogEncodes23
namespace Go.Proofs.Ytgfifjcecpllbaa.Log
open Go.Proofs.Ytgfifjcecpllbaa.Ints Go.Proofs.Ytgfifjcecpllbaa.SumMath Go.Proofs.Ytgfifjcecpllbaa.SumWalks Go.Proofs.Ytgfifjcecpllbaa.Trace Go.Proofs.Ytgfifjcecpllbaa.Record
open Go.Proofs.Ytgfifjcecpllbaa.Lex (nameS)

theorem toU_toI (s : List UInt8) : toU (toI s) = s := by
  unfold toU toI
  rw [List.map_map]
  refine (List.map_congr_left (g := id) fun x _ => ?_).trans (List.map_id s)
  simp
theorem toI_toU {l : List Int} (h : ∀ z ∈ l, 0 ≤ z ∧ z ≤ 255) : toI (toU l) = l := by
  unfold toU toI
  rw [List.map_map]
  refine (List.map_congr_left (g := id) fun x hx => ?_).trans (List.map_id l)
  have := h x hx
  show ((UInt8.ofNat x.toNat).toNat : Int) = x
  rw [UInt8.toNat_ofNat']
  omega
theorem byte_here (pre rest : List Int) (x : Int) : byteAt (pre ++ x :: rest) pre.length = x.toNat := by
  unfold byteAt
  simp
theorem names_good {l : List (List UInt8)} (h : namesOk l = true) : (∀ s ∈ l, nameS s = true) ∧ l.Nodup := by
  have h1 := ((namesOk_iff l).1 h).2
  have e : ∀ i (hi : i < l.length), l.getD i [] = l[i] := fun i hi => by simp [List.getD, hi]
  refine ⟨fun s hs => ?_, List.pairwise_iff_getElem.2 fun i j hi hj hij => ?_⟩
  · obtain ⟨i, hi, rfl⟩ := List.getElem_of_mem hs
    have := (h1 i hi).1
    rwa [e i hi] at this
  · intro hE
    have := (h1 j hj).2
    rw [e j hj] at this
    exact this (List.mem_take_iff_getElem.2 ⟨i, by omega, hE⟩)
/-- Names that stand in a header are read as they are. -/
theorem namesD_enc {b rest : List Int} (miss : Nat) : ∀ (names : List (List UInt8)) (pre : List Int) (acc : List (List UInt8)), b = pre ++ (names.flatMap nameB ++ rest) → (∀ s ∈ names, nameS s = true) → (acc ++ names).Nodup →
    namesD b miss names.length pre.length acc = (acc ++ names, pre.length + (names.flatMap nameB).length, 0) := by
  intro names
  induction names with
  | nil => intro pre acc _ _ _; simp [namesD_zero]
  | cons s l ih =>
    intro pre acc hb hg hn
    have hs := name_le (hg s (List.mem_cons_self ..))
    have hb2 : b = pre ++ ((s.length : Int) % 256) :: (toI s ++ (l.flatMap nameB ++ rest)) := by
      rw [hb, List.flatMap_cons]
      simp [nameB]
    have hy : byteAt b pre.length = s.length := by
      rw [hb2, byte_here]
      omega
    have hl : b.length = pre.length + (1 + (s.length + ((l.flatMap nameB).length + rest.length))) := by
      rw [hb2]
      simp only [List.length_append, List.length_cons, toI_len]
      omega
    have hd : (b.drop (pre.length + 1)).take (byteAt b pre.length) = toI s := by
      rw [hy, hb2, List.drop_append, List.drop_of_length_le (by omega), show pre.length + 1 - pre.length = 1 by omega, List.nil_append, List.drop_succ_cons, List.drop_zero, ← toI_len s, List.take_left]
    have hmem : s ∉ acc := by
      intro h
      exact (List.nodup_append.1 hn).2.2 s h s (List.mem_cons_self ..) rfl
    rw [List.length_cons, namesD_next _ (by omega) (by omega) (by omega) (by rw [hd, toU_toI]) (hg s (List.mem_cons_self ..)) hmem, hy]
    have h3 := ih (pre ++ nameB s) (acc ++ [s]) (by rw [hb]; simp) (fun x hx => hg x (List.mem_cons_of_mem _ hx)) (by simpa using hn)
    rw [List.length_append, nameB_len, ← Nat.add_assoc, Nat.add_right_comm] at h3
    rw [h3, List.flatMap_cons, List.length_append, nameB_len]
    simp only [List.append_assoc, List.singleton_append, Prod.mk.injEq, true_and, and_true]
    omega
theorem frontL_length (names : List (List UInt8)) : (frontL names).length = 5 + (names.flatMap nameB).length := by simp [frontL]; omega
theorem headL_len (names : List (List UInt8)) : (headL names).length = 9 + (names.flatMap nameB).length := by
  unfold headL
  rw [List.length_append, frontL_length]
  simp [be4]
  omega
/-- A header is read as it is written, whatever stands behind it. -/
theorem head_enc {names : List (List UInt8)} (h : namesOk names = true) (rest : List Int) (miss : Nat) : headD (headL names ++ rest) miss = (names, (headL names).length, 0) := by
  obtain ⟨h1, h2⟩ := names_good h
  have h64 := ((namesOk_iff names).1 h).1
  have hl := headL_len names
  obtain ⟨b, hb⟩ : ∃ b, headL names ++ rest = b := ⟨_, rfl⟩
  have hb2 : b = [87, 71, 76, 1, (names.length : Int) % 256] ++ (names.flatMap nameB ++ (be4 (adn 1 (frontL names)) ++ rest)) := by
    rw [← hb]
    simp [headL, frontL]
  have hn : namesD b miss (byteAt b 4) 5 [] = (names, 5 + (names.flatMap nameB).length, 0) := by
    have hy : byteAt b 4 = names.length := by
      rw [hb2]
      unfold byteAt
      simp
      omega
    rw [hy]
    exact namesD_enc miss names _ [] hb2 h1 (by simpa using h2)
  have hlen : b.length = 9 + (names.flatMap nameB).length + rest.length := by rw [← hb, List.length_append, hl]
  have hy : byteAt b 4 = names.length := by
    rw [hb2]
    unfold byteAt
    simp
    omega
  have ht : b.take 4 = [87, 71, 76, 1] := by rw [hb2]; simp
  have hc : b.take (5 + (names.flatMap nameB).length + 4) = headL names := by
    rw [← hb, show 5 + (names.flatMap nameB).length + 4 = (headL names).length by omega, List.take_left]
  have hse : sealedB (headL names) = true := by
    unfold sealedB
    rw [show (headL names).length - 4 = (frontL names).length by rw [frontL_length]; omega]
    refine decide_eq_true ⟨by omega, ?_⟩
    unfold headL
    rw [List.drop_left, List.take_left]
  rw [hb]
  unfold headD
  rw [if_neg (by omega), if_neg (by rw [ht, hy]; rintro (e | e); · exact e rfl
                                    · omega), hn]
  unfold lastD
  simp only
  rw [if_neg (by simp), if_neg (by omega), hc, hse, if_neg (by simp)]
  simp only [Prod.mk.injEq, true_and, and_true]
  omega
/-- Get of what Put has written, with any number of names that its ids stand for. -/
theorem rec_get {e : Ev} {p : Int} (hp : 0 ≤ p ∧ p ≤ 64) (hi : idsOk e.ids p = true) (h0 : 0 ≤ e.time) (h1 : e.time ≤ 18446744073709551615) (rest : List Int) :
    errR (recR e ++ rest) (propsR p) = 0 ∧ evR (recR e ++ rest) = e ∧ lenR (recR e ++ rest) = 8 + e.ids.length := by
  have hc0 := ids_count hi
  have hc : e.ids.length ≤ 64 := by omega
  have hf : recR e ++ rest = bodyR e ++ (be4 (adn 1 (bodyR e)) ++ rest) := by unfold recR; rw [List.append_assoc]
  have hL : lenR (recR e ++ rest) = 8 + e.ids.length := by rw [hf]; exact body_lenR hc _
  have hE : evR (recR e ++ rest) = e := by rw [hf]; exact body_ev hc h0 h1 _
  have hq : propsR p = p := by unfold propsR; omega
  have hs : sizeE (recR e ++ rest) p = 0 := by
    unfold sizeE
    rw [List.length_append, rec_len, if_neg (by omega), if_neg (by omega), hL, if_neg (by omega), if_neg (by omega)]
  refine ⟨?_, hE, hL⟩
  unfold errR
  rw [hq, if_neg (by omega), hL, hE, show 8 + e.ids.length + 6 = (recR e).length by rw [rec_len]; omega, List.take_left, rec_sealed, hi]
  rfl
/-- Times that don't fall, from a time on. -/
def Rise : Int → List Ev → Prop
  | _, [] => True
  | t, e :: l => t ≤ e.time ∧ Rise e.time l
theorem rise_of {p : Int} : ∀ (l : List Ev) (t : Int), evsOk l p = true → (∀ e, l.head? = some e → t ≤ e.time) → Rise t l := by
  intro l
  induction l with
  | nil => intro t _ _; trivial
  | cons e l ih =>
    intro t h ht
    have h2 := (evsOk_iff _ _).1 h
    refine ⟨ht e rfl, ih e.time ((evsOk_iff _ _).2 fun i hi => ?_) fun x hx => ?_⟩
    · have h3 := h2 (i + 1) (by rw [List.length_cons]; omega)
      unfold EvGood at h3 ⊢
      refine ⟨by simpa using h3.1, fun h0 => ?_⟩
      have h4 := h3.2 (by omega)
      obtain ⟨j, rfl⟩ : ∃ j, i = j + 1 := ⟨i - 1, by omega⟩
      simpa using h4
    · cases l with
      | nil => cases hx
      | cons y l =>
        cases hx
        have h3 := (h2 1 (by simp)).2 (by omega)
        simpa using h3
theorem evs_ids {p : Int} {l : List Ev} (h : evsOk l p = true) : ∀ e ∈ l, idsOk e.ids p = true := by
  intro e he
  obtain ⟨i, hi, rfl⟩ := List.getElem_of_mem he
  have := ((evsOk_iff _ _).1 h i hi).1
  have e2 : l.getD i noEv = l[i] := by simp [List.getD, hi]
  rwa [e2] at this
theorem recs_enc {b : List Int} {p : Int} (hp : 0 ≤ p ∧ p ≤ 64) : ∀ (l : List Ev) (f : Nat) (pre : List Int) (last : Int) (es : List Ev), b = pre ++ l.flatMap recR → l.length < f → (∀ e ∈ l, idsOk e.ids p = true) →
    (∀ e ∈ l, 0 ≤ e.time ∧ e.time ≤ 18446744073709551615) → Rise last l → recsD b p f pre.length last es = (es ++ l, 13) := by
  intro l
  induction l with
  | nil =>
    intro f pre last es hb hf _ _ _
    obtain ⟨f, rfl⟩ : ∃ g, f = g + 1 := ⟨f - 1, by simp at hf; omega⟩
    rw [List.append_nil]
    refine recsD_err f ?_ (by decide)
    rw [hb, List.drop_left]
    rfl
  | cons e l ih =>
    intro f pre last es hb hf hi ht hr
    obtain ⟨f, rfl⟩ : ∃ g, f = g + 1 := ⟨f - 1, by rw [List.length_cons] at hf; omega⟩
    have hd : b.drop pre.length = recR e ++ l.flatMap recR := by rw [hb, List.drop_left, List.flatMap_cons]
    have h1 := ht e (List.mem_cons_self ..)
    obtain ⟨g1, g2, g3⟩ := rec_get hp (hi e (List.mem_cons_self ..)) h1.1 h1.2 (l.flatMap recR)
    have hlt : ¬ e.time < last := by have := hr.1; omega
    rw [recsD_next f (by rw [hd]; exact g1) (by rw [hd, g2]; exact hlt), hd, g2, g3]
    have h3 := ih f (pre ++ recR e) e.time (es ++ [e]) (by rw [hb]; simp) (by rw [List.length_cons] at hf; omega) (fun x hx => hi x (List.mem_cons_of_mem _ hx)) (fun x hx => ht x (List.mem_cons_of_mem _ hx)) hr.2
    rw [List.length_append, rec_len] at h3
    rw [show pre.length + (8 + e.ids.length + 6) = pre.length + (14 + e.ids.length) by omega, h3]
    simp
theorem flat_count (l : List Ev) : l.length ≤ (l.flatMap recR).length := by
  induction l with
  | nil => simp
  | cons e l ih => rw [List.flatMap_cons, List.length_append, rec_len, List.length_cons]; omega
/-- Decode of Encode. -/
theorem dec_enc {t : Tr} (h : mayT t = true) (ht : ∀ e ∈ t.events, 0 ≤ e.time ∧ e.time ≤ 18446744073709551615) : recordsD (encL t) = (t, 13) := by
  obtain ⟨h1, h2⟩ := (mayT_iff t).1 h
  have h64 := ((namesOk_iff _).1 h1).1
  have he : encL t = headL t.names ++ t.events.flatMap recR := by unfold encL; rw [if_pos h]
  have hd := head_enc h1 (t.events.flatMap recR) 5
  have hr := recs_enc (b := headL t.names ++ t.events.flatMap recR) (p := (t.names.length : Int)) ⟨by omega, by omega⟩ t.events ((headL t.names ++ t.events.flatMap recR).length + 1) (headL t.names) 0 [] rfl
    (by have := flat_count t.events; rw [List.length_append]; omega) (evs_ids h2) ht
    (rise_of t.events 0 h2 fun e he => (ht e (List.mem_of_head? he)).1)
  rw [he]
  unfold recordsD
  rw [hd]
  simp only
  rw [if_neg (by simp), hr]
  rfl
end Go.Proofs.Ytgfifjcecpllbaa.Log

namespace Go.Proofs.Ytgfifjcecpllbaa.Log
open Go.RowKit Go.Proofs.Ytgfifjcecpllbaa.Ints Go.Proofs.Ytgfifjcecpllbaa.Mem Go.Proofs.Ytgfifjcecpllbaa.SumMath Go.Proofs.Ytgfifjcecpllbaa.SumWalks Go.Proofs.Ytgfifjcecpllbaa.Trace Go.Proofs.Ytgfifjcecpllbaa.Record

theorem enc_none : encL noTr = [87, 71, 76, 1, 0, 3, 186, 0, 236] := by decide +kernel
theorem dec_none : recordsD [87, 71, 76, 1, 0, 3, 186, 0, 236] = (noTr, 13) := by
  rw [← enc_none]
  exact dec_enc (by decide) (fun e he => by cases he)
theorem head_of_none : headD [87, 71, 76, 1, 0, 3, 186, 0, 236] 5 = ([], 9, 0) := by
  rw [← enc_none]
  have := head_enc (names := []) (by decide) [] 5
  rw [List.append_nil] at this
  exact this
set_option maxHeartbeats 4000000 in
set_option maxRecDepth 100000 in
theorem lawAwake (LE : ∀ (NA : Option Addr) (nn nc : Nat) (EA : Option Addr) (ne ec : Nat) (t : Tr) (w : World), TrOk Any w NA nn nc EA ne ec t → ne ≤ 1048576 → Calls Try.prog 12 #[.agg #[.slice NA nn nc, .slice EA ne ec]] w (GotBytes w (encL t)))
    (LD : ∀ (A : Option Addr) (n c : Nat) (zs : List Int) (w : World), n ≤ c → c ≤ maxLen → n ≤ 58000000 → Rd .u8 w A n zs → Calls Try.prog 19 #[.slice A n c] w (GotDec w zs))
    (LH : ∀ (A : Option Addr) (n c : Nat) (zs : List Int) (w : World), n ≤ c → c ≤ maxLen → n ≤ 58000000 → Rd .u8 w A n zs → Calls Try.prog 20 #[.slice A n c] w (GotHead w zs 5))
    (w : World) : Calls Try.prog 14 #[] w fun e w' => e = .returned (.bool true) ∧ Below w.heap.size w w' := by
  have q63 : maxLen = 9223372036854775807 := rfl
  have FE := LE none 0 0 none 0 0 noTr w (TrOk.none _ w) (by decide)
  rw [enc_none] at FE
  obtain ⟨zs, hzs⟩ : ∃ zs : List Int, [87, 71, 76, 1, 0, 3, 186, 0, 236] = zs := ⟨_, rfl⟩
  have HZ := Lib.hid hzs
  have hdec := dec_none
  have hhead := head_of_none
  rw [hzs] at FE hdec hhead
  have hlen : zs.length = 9 := by rw [← hzs]; rfl
  have hz0 : zs[0]?.getD 0 = 87 := by rw [← hzs]; rfl
  have hz3 : zs[3]?.getD 0 = 1 := by rw [← hzs]; rfl
  have hwf : ∀ z ∈ zs, (Lit.int .u8 z).wf = true := by rw [← hzs]; decide
  have hT : decT zs = noTr := by unfold decT; rw [hdec]
  have hE : decE zs = 0 := by unfold decE; rw [hdec]; rfl
  have HFE := Lib.hid FE
  have HLD := Lib.hid LD
  have HLH := Lib.hid LH
  have HT := Lib.hid hT
  have HE := Lib.hid hE
  have HHD := Lib.hid hhead
  have H0 := Lib.hid hz0
  have H3 := Lib.hid hz3
  have HW := Lib.hid hwf
  have HL := Lib.hid hlen
  clear FE LE LD LH hzs hdec hhead hT hE hz0 hz3 hwf hlen
  go_enter Try.func14, Try.ntmps14
  go_wp2_with fail
  refine HFE.out.mono ?_
  rintro e w1 ⟨v1, rfl, hown, hB1⟩
  rw [HL.out] at hown
  obtain ⟨g, c1, rfl, hg, hgl, hc1, hm1⟩ := own_form hown (by decide)
  have hrd := Rd.own hown HW.out
  have hcell0 := own_cell hown (j := 0) (by decide)
  have hcell3 := own_cell hown (j := 3) (by decide)
  rw [H0.out] at hcell0
  rw [H3.out] at hcell3
  have FD := HLD.out (some ⟨g, 0, none⟩) 9 c1 zs w1 hc1 hm1 (by decide) hrd
  unfold GotDec at FD
  rw [HT.out, HE.out] at FD
  have HFD := Lib.hid FD
  have HB1 := Lib.hid hB1
  have HC0 := Lib.hid hcell0
  have HC3 := Lib.hid hcell3
  have HRD := Lib.hid hrd
  clear FD hB1 hcell0 hcell3 hrd hown HFE
  go_wp2_with fail
  refine HFD.out.mono ?_
  rintro e w2 ⟨NA, nc, EA, ec, rfl, -, hB2⟩
  have HB2 := Lib.hid hB2
  have HN := Lib.hid (show (noTr.names.length) = 0 from rfl)
  have HEV := Lib.hid (show (noTr.events.length) = 0 from rfl)
  rw [HN.out, HEV.out]
  have HT3 := Lib.hid (Blk.new w2 #[.slice NA 0 nc, .slice EA 0 ec] 25 [.slice NA 0 nc, .slice EA 0 ec] rfl)
  have HB3 := Lib.hid (HB2.out.alloc HB2.out.size (.cells #[.slice NA 0 nc, .slice EA 0 ec] 25))
  obtain ⟨w3, hw3⟩ : ∃ w3, w2.alloc (.cells #[.slice NA 0 nc, .slice EA 0 ec] 25) = w3 := ⟨_, rfl⟩
  rw [hw3] at HT3 HB3
  obtain ⟨g2, hg2⟩ : ∃ g2, w2.heap.size = g2 := ⟨_, rfl⟩
  rw [hg2] at HT3
  have HW3 := Lib.hid hw3
  have HG2 := Lib.hid hg2
  have FH := HLH.out (some ⟨g, 0, none⟩) 9 c1 zs w3 hc1 hm1 (by decide) (HRD.out.below HB3.out)
  unfold GotHead at FH
  rw [HHD.out] at FH
  simp only [List.length_nil] at FH
  have HFH := Lib.hid FH
  clear hB2 HFD hw3 hg2 FH
  go_wp2_with fail
  rw [HW3.out, HG2.out]
  refine HFH.out.mono ?_
  rintro e w4 ⟨L, cl, rfl, -, hB4⟩
  have hB14 := HB3.out.trans (hB4.mono HB3.out.size)
  have x0 := below_cell hB14 HC0.out
  have x3 := below_cell hB14 HC3.out
  have y1 := (HT3.out.later hB4).cell 1 rfl
  have HBE := Lib.hid (HB1.out.trans (hB14.mono HB1.out.size))
  clear hB14 hB4
  go_wp2_with fail
  go_ret
  exact ⟨rfl, HBE.out⟩
end Go.Proofs.Ytgfifjcecpllbaa.Log
