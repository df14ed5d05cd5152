/-
  The walk of the landed Head of package scan (stage 12). By an AI agent.
  The landed pool in memory (stage 13): what it holds, and what leaves it. By an AI agent.
  The landed pool: Open, Clone, Count, Cells, Peak, Index, Close, Names (stage 13). By an AI agent.
-/
import Derived.Test.YtimbbfneaaglbaaGreatGHeadsPlays42
import Derived.Test.YtimbbfneaaglbaaGreatGHeadsPlays29
import Derived.Test.YtimbbfneaaglbaaGreatGHeadsPlays40
import Derived.Test.YtimbbfneaaglbaaGreatGHeadsPlays41
import Derived.Test.YtimbbfneaaglbaaGreatGHeadsPlays23
namespace Go.Proofs.YtimbbfneaaglbaaGreat.Scan
open Go.RowKit Go.Proofs.YtimbbfneaaglbaaGreat.Ints Go.Proofs.YtimbbfneaaglbaaGreat.Mem Go.Proofs.YtimbbfneaaglbaaGreat.SumMath Go.Proofs.YtimbbfneaaglbaaGreat.SumWalks Go.Proofs.YtimbbfneaaglbaaGreat.Trace Go.Proofs.YtimbbfneaaglbaaGreat.Record Go.Proofs.YtimbbfneaaglbaaGreat.Log Go.Proofs.YtimbbfneaaglbaaGreat.Src
open Go.Proofs.YtimbbfneaaglbaaGreat.Lex (nameS)

theorem HdR.other {S : Nat → Prop} {w0 w w' : World} {g : Nat} {b sc : List Int} {f N k : Nat} {v : Value} {vb : Option Nat} (h : HdR S w0 w g b sc f N k v) (hg : w.grownBy w' vb) (hv : ∀ q, vb = some q → w0.heap.size < q) (hr : v.ownBlock = none ∨ v.ownBlock ≠ vb) : HdR S w0 w' g b sc f N k v :=
  ⟨src_row h.src h.glt hg hv, h.box.grown hg (fun e => by have := hv _ e.symm; omega), h.row.kept hg hr, grown_row h.gr hg hv, h.glt, h.kle⟩
theorem apart_rows {w : World} {B n m : Nat} {v u : Value} {xs ys : List Value} (h : w.ownsRow B 9 1 v n xs) (h2 : w.ownsRow B 5 1 u m ys) : u.ownBlock = none ∨ u.ownBlock ≠ v.ownBlock := by
  rcases rows_apart h h2 with e | e
  · rw [e]
    by_cases hu : u.ownBlock = none
    · exact .inl hu
    · exact .inr hu
  · exact .inr (Ne.symm e)
theorem head_got {S : Nat → Prop} {w w' : World} {g : Nat} {b sc : List Int} {f N N' k er : Nat} {v : Value} (hs : ¬ S g) (hE : headD (b.take f) (missE b.length f) = ([], 0, er)) (h : HdR S w w' g b sc f N' k v) (hN : N' ≤ N + k) :
    GotHeadS S w g b sc f N (.returned (.tuple #[.slice none 0 0, .int .i64 0, .int .i64 (er : Nat)])) w' := by
  have hF : headF b f = ([], 0, er) := hE
  unfold GotHeadS
  rw [hF]
  have hk : k ≤ b.length := by have h1 := h.kle; rw [List.length_take] at h1; omega
  exact ⟨none, 0, N', rfl, World.ownsRow_nil _ _ _ _, h.src.mono (fun _ e => e.1) hs, by omega, h.gr⟩

set_option maxHeartbeats 8000000 in
set_option maxRecDepth 100000 in
theorem landHd : HeadC 140737488357232 := by
  intro S g b sc f N w hs hN hM
  have q63 : maxLen = 9223372036854775807 := rfl
  obtain ⟨i0, hi, hz0, hz1, hz2⟩ := info_parts infoStrL
  have hal1 := (Below.refl _ w).alloc (Nat.le_refl _) (.cells #[.pointer (some ⟨g, 0, none⟩), .slice none 0 0] 99)
  have HNE := Lib.hid hs.ne
  have hh1 : HdR S w (w.alloc (.cells #[.pointer (some ⟨g, 0, none⟩), .slice none 0 0] 99)) g b sc f N 0 (.slice none 0 0) :=
    ⟨(lsrc_low hs).below hal1, Blk.new w _ _ _ rfl, by rw [List.take_zero]; exact World.ownsRow_nil _ _ _ _, grown_below hal1 (some g), hs.lt, Nat.zero_le _⟩
  have HC := Lib.hid (landCount S w _ g b sc f N _ hh1 (by omega) (by omega))
  have HFN := Lib.hid (fun W M j v' hh h1 h2 => landName S w W g b sc f M j v' hh h1 h2 (by omega))
  have HFP := Lib.hid (fun W M j m v' hh h1 h2 h3 => landPart S w W g b sc f M j m v' hh h1 h2 h3 (by omega))
  have HBY := Lib.hid (lsrc_bytes hs)
  unfold GotCount at HC
  unfold GotSpell at HFN
  unfold GotPart at HFP
  have HBAD := Lib.hid (fun W v' N' k er hE h h2 => head_got (w := w) (w' := W) (N := N) (N' := N') (k := k) (v := v') (er := er) HNE.out (b := b) (sc := sc) (f := f) hE h h2)
  obtain ⟨x, hx⟩ : ∃ x, b.take f = x := ⟨_, rfl⟩
  obtain ⟨ms, hms⟩ : ∃ ms, missE b.length f = ms := ⟨_, rfl⟩
  have hms0 : ms ≠ 0 := by rw [← hms]; exact miss_ne _ _
  simp only [hx, hms] at HC HFN HFP HBAD
  rw [hx] at HBY
  have HX := Lib.hid hx
  have HMS := Lib.hid hms
  clear hx hms hh1 hal1 hs
  obtain ⟨er, her⟩ : ∃ er, countE x ms = er := ⟨_, rfl⟩
  have HER := Lib.hid her
  simp only [her] at HC
  clear her
  go_enter Tryz.func32, Tryz.ntmps32
  go_wp2_with fail
  refine HC.out.mono ?_
  rintro e w1 ⟨v1, N1, k1, rfl, hh1, hN1, hk1, -, hk5⟩
  clear HC
  by_cases he0 : er = 0
  rotate_left
  · have hE := HBAD.out w1 v1 N1 k1 er (by rw [count_bad (by rw [HER.out]; exact he0), HER.out]) hh1 hN1
    have he0' : ((er : Int) == 0) = false := by simp; omega
    have HE := Lib.hid hE
    clear hh1 hE
    go_wp2_with fail
    refine bodyPost_ret (v := .tuple #[.slice none 0 0, .int .i64 0, .int .i64 (er : Nat)]) (by simp [results, Tryz.results32, go_sem]) rfl ?_
    exact HE.out
  subst he0
  obtain rfl := hk5 rfl
  obtain ⟨-, -, h64, hEE⟩ := count_ok hms0 HER.out
  obtain ⟨n, hn⟩ : ∃ n, byteAt x 4 = n := ⟨_, rfl⟩
  rw [hn] at h64 hEE
  have HNB := Lib.hid hn
  have HEE := Lib.hid hEE
  have hB2 : Below w1.heap.size w1 (w1.alloc (.cells #[] 9)) := (Below.refl _ _).alloc (Nat.le_refl _) _
  have HH1 := Lib.hid (hh1.below hB2)
  have hsz1 : w.heap.size + 1 ≤ w1.heap.size := by have := hh1.box.1; omega
  have HR1 := Lib.hid (World.ownsRow_made (e := 9) (size := 1) (base := w.heap.size + 1) w1 #[] 0 hsz1 (by decide) rfl)
  clear hh1 hB2 hEE hk5
  simp only [if_true, hn]
  clear hn
  go_wp2_with fail
  go_loopw [8, 24] (fun v i wr => ∃ (j k N' : Nat) (acc : List (List UInt8)) (vb : Value), j ≤ n ∧ i = .int .i64 j ∧ acc.length = j ∧ wr.ownsRow (w.heap.size + 1) 9 1 v acc.length (acc.map strS) ∧ HdR S w wr g b sc f N' k vb ∧ N' ≤ N + k ∧ k ≤ 5 + 17 * j ∧ (∀ s ∈ acc, nameS s = true) ∧ acc.Nodup ∧ Hid (namesD x ms (n - j) k acc = namesD x ms n 5 [])) (fun _ i _ => n - (intOf i).toNat)
  case atStart => exact ⟨0, 5, N1, [], v1, Nat.zero_le _, rfl, rfl, HR1.out, HH1.out, hN1, by omega, (fun s h => by cases h), List.nodup_nil, rfl⟩
  case round =>
    obtain ⟨j, k, N', acc, vb, hj, rfl, hacc, hrow, hhd, hN', hk, hgood, hnd, hNN⟩ := hrel
    have hjk : j ≤ 64 := by omega
    obtain ⟨A2, c2, rfl, -, -, -, -⟩ := own_slice hrow
    have HRW := Lib.hid hrow
    by_cases hjn : j < n
    rotate_left
    · obtain rfl : j = n := by omega
      have hjn' : ¬ ((j : Int) < (j : Int)) := by omega
      rw [Nat.sub_self] at hNN
      have HNN := Lib.hid (show namesD x ms j 5 [] = (acc, k, 0) from hNN.out.symm)
      have FP := HFP.out wr N' k 4 vb hhd (by omega) (by omega) ⟨by omega, by omega⟩
      rw [show ((4 : Nat) : Int) = 4 from rfl] at FP
      clear hrow hhd hNN HFN HFP
      by_cases h4 : k + 4 ≤ x.length
      rotate_left
      · rw [if_neg h4] at FP
        have HF := Lib.hid FP
        have HE := Lib.hid (show headD x ms = ([], 0, ms) by rw [HEE.out, HNN.out]; unfold lastD; rw [if_neg (fun e => e rfl), if_pos (by show x.length < k + 4; omega)])
        have hms' : ((ms : Int) == 0) = false := by simp; omega
        clear FP
        go_wp2_with fail
        refine HF.out.mono ?_
        rintro e w3 ⟨u, v3, N3, k3, rfl, hh3, hN3, hk3, -, -, -, hu⟩
        obtain rfl := hu h4
        have HG := Lib.hid (HBAD.out w3 v3 N3 k3 ms HE.out hh3 (by omega))
        clear hh3
        go_wp2_with fail
        refine bodyPost_ret (v := .tuple #[.slice none 0 0, .int .i64 0, .int .i64 (ms : Nat)]) (by simp [results, Tryz.results32, go_sem]) rfl ?_
        exact HG.out
      rw [if_pos h4] at FP
      have HF := Lib.hid FP
      have HE := Lib.hid (show headF b f = headD (x.take (k + 4)) 5 by rw [head_front hms0 HER.out (by rw [HNB.out]; exact HNN.out) h4]; unfold headF; rw [HX.out]; exact congrArg (headD x) HMS.out)
      clear FP
      go_wp2_with fail
      refine HF.out.mono ?_
      rintro e w3 ⟨u, v3, N3, k3, rfl, hh3, hN3, -, -, -, hu, -⟩
      obtain ⟨rfl, -⟩ := hu h4
      obtain ⟨A3, c3, rfl, hkc, hcm, -, -⟩ := own_slice hh3.row
      have y1 := hh3.box.cell 1 rfl
      have hrow3 := hh3.row
      rw [HX.out] at hrow3
      have FH := Lib.hid (landHead A3 (k + 4) c3 (x.take (k + 4)) w3 hkc hcm (by omega) (Rd.own hrow3 (fun z hz => HBY.out z (List.mem_of_mem_take hz))))
      have HH3 := Lib.hid hh3
      clear hh3 hrow3 hu HF
      go_wp2_with fail
      refine FH.out.mono ?_
      rintro e w4 ⟨A4, c4, rfl, hown4, hB4⟩
      have HH4 := Lib.hid (HH3.out.below hB4)
      have hsz4 := HH3.out.gr.size
      have HO4 := Lib.hid (own_weaken hown4 hsz4)
      obtain ⟨R, hR⟩ : ∃ R, headD (x.take (k + 4)) 5 = R := ⟨_, rfl⟩
      rw [hR] at HE HO4 ⊢
      obtain ⟨l, q, er2⟩ := R
      have HO5 := Lib.hid (show w4.ownsRow w.heap.size 9 1 (.slice A4 l.length c4) l.length (l.map strS) from HO4.out)
      clear HO4 hown4 hB4 y1 hR FH
      go_wp2_with fail
      refine bodyPost_ret (v := .tuple #[.slice A4 l.length c4, .int .i64 (q : Nat), .int .i64 (er2 : Nat)]) (by simp [results, Tryz.results32, go_sem]) rfl ?_
      have hkx := HH4.out.kle
      rw [List.length_take] at hkx
      unfold GotHeadS
      rw [HE.out]
      exact ⟨A4, c4, N3, rfl, HO5.out, HH4.out.src.mono (fun _ e => e.1) HNE.out, by omega, HH4.out.gr⟩
    have hjn' : (j : Int) < (n : Int) := by omega
    obtain ⟨d, hd⟩ : ∃ d, n - j = d + 1 := ⟨n - j - 1, by omega⟩
    rw [hd] at hNN
    have HF := Lib.hid (HFN.out wr N' k vb hhd (by omega) (by omega))
    clear hrow hhd HFN HFP
    go_wp2_with fail
    refine HF.out.mono ?_
    rintro e w3 ⟨sb, v3, N3, k3, rfl, hh3, hN3, hk3, hnm, hs3⟩
    have HR3 := Lib.hid (show w3.ownsRow (w.heap.size + 1) 9 1 (.slice A2 j c2) acc.length (acc.map strS) by have h := hnm _ _ _ HRW.out; rw [hacc] at h ⊢; exact h)
    clear HF HRW hnm
    obtain ⟨sp, hsp⟩ : ∃ sp, spelE x ms k = sp := ⟨_, rfl⟩
    rw [hsp] at hs3 ⊢
    by_cases hs0 : sp = 0
    rotate_left
    · have hs0' : ((sp : Int) == 0) = false := by simp; omega
      have HG := Lib.hid (HBAD.out w3 v3 N3 k3 sp (by rw [HEE.out, ← hNN.out, spell_bad d acc (by rw [hsp]; exact hs0), hsp]; unfold lastD; rw [if_pos hs0]) hh3 (by omega))
      clear hh3 hs3 hNN
      go_wp2_with fail
      refine bodyPost_ret (v := .tuple #[.slice none 0 0, .int .i64 0, .int .i64 (sp : Nat)]) (by simp [results, Tryz.results32, go_sem]) rfl ?_
      exact HG.out
    subst hs0
    obtain ⟨o1, o2, o3⟩ := spell_ok hms0 hsp
    obtain ⟨hk4, hsb⟩ := hs3 rfl
    obtain ⟨s, hs⟩ : ∃ s, sb.data.toList = s := ⟨_, rfl⟩
    have hsu : toU ((x.drop (k + 1)).take (byteAt x k)) = s := by rw [← hs, hsb, strOfNums_data]; rfl
    have hslen : s.length ≤ 16 := by
      rw [← hsu]
      unfold toU
      rw [List.length_map, List.length_take]
      omega
    have HH3 := Lib.hid hh3
    have hsz3 : w.heap.size + 1 ≤ w3.heap.size := by have := hh3.box.1; omega
    have HSU := Lib.hid hsu
    have hsok := names_snoc (s := s) hgood hnd (by omega)
    have HSOK := Lib.hid hsok
    have HK4 := Lib.hid hk4
    have hb16 : byteAt x k ≤ 16 := by omega
    clear hh3 hsb hsu hs3 hsok hsp hk4
    go_wp2_with (at_builtin; refine wpList_append_name rfl _ _ 30 rfl (w.heap.size + 1) 9 i0 Tryz.underlying30 hi hz0 hz1 hz2 (.slice A2 j c2) acc (by rfl) 9 sb HR3.out (by rfl) (by omega) hsz3 ?_; intro v4 w4 hown4 hgr4; rw [hs] at hown4)
    obtain ⟨A4, c4, rfl, hc4, hm4, -, -⟩ := own_slice hown4
    have hl4 : (acc ++ [s]).length = acc.length + 1 := by rw [List.length_append]; rfl
    obtain ⟨-, hstr4, -, -⟩ := strs_own hown4
    have FN := landNames A4 (acc.length + 1) c4 (acc ++ [s]) w4 hl4 hc4 hstr4 (fun t ht => by
      rcases List.mem_append.1 ht with h | h
      · have := hgood t h
        have := (name_le this).2
        omega
      · rw [List.mem_singleton.1 h]; omega)
    have hrow3 : ∀ q, (Value.slice A2 j c2).ownBlock = some q → w.heap.size < q := fun q hq => by have := (HR3.out.lt q hq).1; omega
    have HH4 := Lib.hid (show HdR S w w4 g b sc f N3 k3 v3 from (HH3.out.below ((Below.refl _ _).alloc (Nat.le_refl _) _)).other hgr4 hrow3 (apart_rows HR3.out HH3.out.row))
    have HO4 := Lib.hid hown4
    clear hown4 hgr4 hstr4 HH3 HR3
    by_cases hgd : nameS s = true ∧ s ∉ acc
    rotate_left
    · have hno : namesOk (acc ++ [s]) = false := by
        rcases hq : namesOk (acc ++ [s])
        · rfl
        · exact absurd (HSOK.out.1 hq) hgd
      rw [hno] at FN
      have HFN2 := Lib.hid FN
      have hbad : nameS s = false ∨ s ∈ acc := by
        rcases hq : nameS s
        · exact .inl rfl
        · exact .inr (Decidable.byContradiction fun e => hgd ⟨hq, e⟩)
      have HG := Lib.hid (HBAD.out w4 v3 N3 k3 5 (by rw [HEE.out, ← hNN.out, namesD_none d o1 o2 o3 HSU.out hbad]; rfl) HH4.out (by omega))
      clear FN hno hbad hNN
      go_wp2_with fail
      refine HFN2.out.mono ?_
      rintro e w5 ⟨rfl, rfl⟩
      go_wp2_with fail
      refine bodyPost_ret (v := .tuple #[.slice none 0 0, .int .i64 0, .int .i64 5]) (by simp [results, Tryz.results32, go_sem]) rfl ?_
      exact HG.out
    rw [HSOK.out.2 hgd] at FN
    have HFN2 := Lib.hid FN
    have HNX := Lib.hid (show namesD x ms d k3 (acc ++ [s]) = namesD x ms n 5 [] by rw [← hNN.out, HK4.out, namesD_next d o1 o2 o3 HSU.out hgd.1 hgd.2])
    clear FN hNN
    go_wp2_with fail
    refine HFN2.out.mono ?_
    rintro e w5 ⟨rfl, rfl⟩
    go_wp2_with fail
    refine ⟨?_, ?measure⟩
    · (repeat apply Exists.intro)
      refine ⟨?rel, rfl⟩
      have hk4 := HK4.out
      refine ⟨j + 1, k3, N3, acc ++ [s], v3, by omega, by go_num, by rw [hl4]; omega, by have h := HO4.out; rw [hacc] at h; rw [hl4, hacc]; exact h, HH4.out, by omega, by omega, fun t ht => ?_, ?_, ?_⟩
      · rcases List.mem_append.1 ht with h | h
        · exact hgood t h
        · rw [List.mem_singleton.1 h]; exact hgd.1
      · refine List.nodup_append.2 ⟨hnd, by simp, fun p hp q hq => ?_⟩
        rw [List.mem_singleton.1 hq]
        exact fun e => hgd.2 (e ▸ hp)
      · rw [show n - (j + 1) = d by omega]
        exact HNX.out
    · simp [intOf]; omega
end Go.Proofs.YtimbbfneaaglbaaGreat.Scan

namespace Go.Proofs.YtimbbfneaaglbaaGreat.Heads
open Go.RowKit Go.Proofs.YtimbbfneaaglbaaGreat.Ints Go.Proofs.YtimbbfneaaglbaaGreat.Mem Go.Proofs.YtimbbfneaaglbaaGreat.Trace Go.Proofs.YtimbbfneaaglbaaGreat.Record Go.Proofs.YtimbbfneaaglbaaGreat.Log Go.Proofs.YtimbbfneaaglbaaGreat.Src Go.Proofs.YtimbbfneaaglbaaGreat.Scan

theorem rd_at {k : IntKind} {w w' : World} {A : Option Addr} {n : Nat} {zs : List Int} (h : Rd k w A n zs) (hk : ∀ a, A = some a → 0 < n → w'.heap[a.block]? = w.heap[a.block]?) : Rd k w' A n zs :=
  ⟨h.1, h.2.1, fun h0 => by
    obtain ⟨b, off, e, hc⟩ := h.2.2 h0
    exact ⟨b, off, e, fun j hj => (World.cell?_of_block (a := ⟨b, off + j, none⟩) (hk ⟨b, off, none⟩ e h0)).trans (hc j hj)⟩⟩
theorem lsrc_at {S : Nat → Prop} {w w' : World} {q : Nat} {b sc : List Int} {f N : Nat} (h : LSrc S w q b sc f N) (hs : w.heap.size ≤ w'.heap.size) (hq : w'.heap[q]? = w.heap[q]?) (hS : ∀ k, S k → w'.heap[k]? = w.heap[k]?) : LSrc S w' q b sc f N := by
  obtain ⟨A, c, B, d, h1, h2, h3, h4, h5, h6, h7, h8⟩ := h.ex
  exact ⟨⟨A, c, B, d, h1.same hs hq, rd_at h2 (fun a e h0 => hS _ (h7 a e h0)), h3, h4, rd_at h5 (fun a e h0 => hS _ (h8 a e h0)), h6, h7, h8⟩, h.ne, h.le⟩
structure LN (b : List Int) (f : Nat) (w : World) (g : Nat) (D : Nat → Prop) (N : Nat) (names : List (List UInt8)) (q : Nat) (NA : Option Addr) (nc : Nat) : Prop where
  src : ∃ sc, LSrc (fun k => D k ∧ k < g ∧ k ≠ q) w q b sc f N
  qg : q < g
  dq : D q
  strs : Strs w NA names
  nn : names.length ≤ nc ∧ nc ≤ maxLen
  na : ∀ a, NA = some a → 0 < names.length → D a.block ∧ a.block < g ∧ a.block ≠ q
  dg : D g
  lt : ∀ k, D k → k < w.heap.size
  len : b.length ≤ 58000000
  n64 : names.length ≤ 64
theorem LN.keep {b : List Int} {f : Nat} {w w' : World} {g : Nat} {D : Nat → Prop} {N : Nat} {names : List (List UInt8)} {q : Nat} {NA : Option Addr} {nc : Nat} (h : LN b f w g D N names q NA nc) (hs : w.heap.size ≤ w'.heap.size) (hk : ∀ k, D k → k < g → w'.heap[k]? = w.heap[k]?) : LN b f w' g D N names q NA nc := by
  obtain ⟨sc, h1⟩ := h.src
  exact ⟨⟨sc, lsrc_at h1 hs (hk q h.dq h.qg) (fun k e => hk k e.1 e.2.1)⟩, h.qg, h.dq, strs_at h.strs (fun a e h0 => hk _ (h.na a e h0).1 (h.na a e h0).2.1), h.nn, h.na, h.dg, fun k e => Nat.lt_of_lt_of_le (h.lt k e) hs, h.len, h.n64⟩
theorem LN.more {b : List Int} {f : Nat} {w : World} {g : Nat} {D D' : Nat → Prop} {N : Nat} {names : List (List UInt8)} {q : Nat} {NA : Option Addr} {nc : Nat} (h : LN b f w g D N names q NA nc) (hd : ∀ k, D k → D' k) (hl : ∀ k, D' k → k < w.heap.size) : LN b f w g D' N names q NA nc := by
  obtain ⟨sc, h1⟩ := h.src
  exact ⟨⟨sc, h1.mono (fun k e => ⟨hd k e.1, e.2⟩) (fun e => e.2.2 rfl)⟩, h.qg, hd _ h.dq, h.strs, h.nn, fun a e h0 => ⟨hd _ (h.na a e h0).1, (h.na a e h0).2⟩, hd _ h.dg, hl, h.len, h.n64⟩
theorem LN.read {b : List Int} {f : Nat} {w w' : World} {g : Nat} {D : Nat → Prop} {N N' : Nat} {names : List (List UInt8)} {q : Nat} {NA : Option Addr} {nc : Nat} {sc : List Int} (h : LN b f w g D N names q NA nc) (hs : LSrc (fun k => D k ∧ k < g ∧ k ≠ q) w' q b sc f N') (hg : w.grownBy w' (some q)) : LN b f w' g D N' names q NA nc :=
  ⟨⟨sc, hs⟩, h.qg, h.dq, strs_at h.strs (fun a e h0 => hg.block _ (h.lt _ (h.na a e h0).1) (fun e2 => (h.na a e h0).2.2 (by injection e2))), h.nn, h.na, h.dg, fun k e => Nat.lt_of_lt_of_le (h.lt k e) hg.size, h.len, h.n64⟩

def hdOf (t : Tr) (pl : Nat → Nat) (h : Nat × Nat) : Hd := ⟨(h.1 : Nat), (pl h.2 : Nat), (h.2 : Nat), timeD 0 t.events h.2, (idsAt t h.2 : Nat)⟩
def hdsL (t : Tr) (pl : Nat → Nat) (hs : List (Option Nat)) : List Hd := (opens 0 hs).map (hdOf t pl)
structure LQ (b : List Int) (f : Nat) (w : World) (g : Nat) (D : Nat → Prop) (N : Nat) (s : PS) (q : Nat) (NA : Option Addr) (nc : Nat) (A : Option Addr) (n c : Nat) (pl : Nat → Nat) (l : List Hd) (cl pk : Nat) : Prop where
  blk : Blk w g [.pointer (some ⟨q, 0, none⟩), .slice NA s.t.names.length nc, .int .i64 (pl 0 : Nat), .int .i64 s.size, .slice A n c, .int .i64 (cl : Nat), .int .i64 (pk : Nat)]
  ln : LN b f w g D N s.t.names q NA nc
  row : w.ownsRow (g + 1) 78 5 (.slice A n c) n (rowHd l)
  len : l.length = n
  dv : ∀ k, (Value.slice A n c).ownBlock = some k → D k
  walk : Walk b f s.t s.er pl
def LandL : LPool := fun b f w g D N s => ∃ q NA nc A n c pl, LQ b f w g D N s q NA nc A n c pl (hdsL s.t pl s.hs) (cellsP s.t s.hs) s.peak
theorem LQ.nc {b : List Int} {f : Nat} {w : World} {g : Nat} {D : Nat → Prop} {N : Nat} {s : PS} {q : Nat} {NA : Option Addr} {nc : Nat} {A : Option Addr} {n c : Nat} {pl : Nat → Nat} {l : List Hd} {cl pk : Nat} (h : LQ b f w g D N s q NA nc A n c pl l cl pk) : n ≤ c := by
  obtain ⟨A', c', e, h1, -⟩ := own_sliceN h.row
  injection e with _ _ e3
  omega
theorem LQ.keep {b : List Int} {f : Nat} {w w' : World} {g : Nat} {D : Nat → Prop} {N : Nat} {s : PS} {q : Nat} {NA : Option Addr} {nc : Nat} {A : Option Addr} {n c : Nat} {pl : Nat → Nat} {l : List Hd} {cl pk : Nat} (h : LQ b f w g D N s q NA nc A n c pl l cl pk) (hk : ∀ k, D k → w'.heap[k]? = w.heap[k]?) (hs : w.heap.size ≤ w'.heap.size) : LQ b f w' g D N s q NA nc A n c pl l cl pk :=
  ⟨h.blk.same hs (hk g h.ln.dg), h.ln.keep hs (fun k e _ => hk k e), own_at h.row (fun k e => hk k (h.dv k e)), h.len, h.dv, h.walk⟩
theorem LQ.below {b : List Int} {f : Nat} {w w' : World} {g : Nat} {D : Nat → Prop} {N : Nat} {s : PS} {q : Nat} {NA : Option Addr} {nc : Nat} {A : Option Addr} {n c : Nat} {pl : Nat → Nat} {l : List Hd} {cl pk : Nat} (h : LQ b f w g D N s q NA nc A n c pl l cl pk) (hb : Below w.heap.size w w') : LQ b f w' g D N s q NA nc A n c pl l cl pk :=
  h.keep (fun k e => hb.block k (h.ln.lt k e)) hb.size
theorem turn_below {b : List Int} {f : Nat} {w w' : World} {g : Nat} {D : Nat → Prop} {N : Nat} {s : PS} (h : LandL b f w g D N s) (hb : Below w.heap.size w w') : TurnL LandL b f w w' g D N s := by
  obtain ⟨q, NA, nc, A, n, c, pl, h⟩ := h
  exact ⟨D, N, ⟨q, NA, nc, A, n, c, pl, h.below hb⟩, fun _ e => .inl e, Left.of_below hb, Nat.le_add_right _ _⟩
theorem hds_sorted (t : Tr) (pl : Nat → Nat) (hs : List (Option Nat)) : (hdsL t pl hs).Pairwise (fun a b => a.id < b.id) := by
  unfold hdsL
  rw [List.pairwise_map]
  exact (opens_sorted hs 0).imp (fun {a b} h => by show ((a.1 : Nat) : Int) < ((b.1 : Nat) : Int); omega)
theorem hds_len (t : Tr) (pl : Nat → Nat) (hs : List (Option Nat)) : (hdsL t pl hs).length = countP hs := by
  unfold hdsL
  rw [List.length_map, opens_length]
theorem hds_at {t : Tr} {pl : Nat → Nat} {hs : List (Option Nat)} {j : Nat} {x : Hd} (h : (hdsL t pl hs)[j]? = some x) : ∃ u, (opens 0 hs)[j]? = some u ∧ x = hdOf t pl u := by
  unfold hdsL at h
  rw [List.getElem?_map] at h
  obtain ⟨u, h1, h2⟩ := Option.map_eq_some_iff.1 h
  exact ⟨u, h1, h2.symm⟩
theorem hds_get {t : Tr} {pl : Nat → Nat} {hs : List (Option Nat)} {j : Nat} {u : Nat × Nat} (h : (opens 0 hs)[j]? = some u) : (hdsL t pl hs)[j]? = some (hdOf t pl u) := by
  unfold hdsL
  rw [List.getElem?_map, h]
  rfl
theorem find_tells {t : Tr} {pl : Nat → Nat} {hs : List (Option Nat)} {id : Int} {p : Nat} {bb : Bool} (h1 : ∀ (j : Nat) (h : Hd), j < p → (hdsL t pl hs)[j]? = some h → h.id < id) (h2 : ∀ (j : Nat) (h : Hd), p ≤ j → (hdsL t pl hs)[j]? = some h → id ≤ h.id) (h3 : bb = true ↔ ∃ h, (hdsL t pl hs)[p]? = some h ∧ h.id = id) :
    (bb = true ∧ ∃ k A B, headP hs id = some k ∧ opens 0 hs = A ++ (id.toNat, k) :: B ∧ A.length = p ∧ (∀ j, opens 0 (hs.set id.toNat (some j)) = A ++ (id.toNat, j) :: B) ∧ opens 0 (hs.set id.toNat none) = A ++ B) ∨ (bb = false ∧ headP hs id = none) := by
  rcases opens_find (hs := hs) (id := id) (p := p) (fun j h hj hh => h1 j _ hj (hds_get hh)) (fun j h hj hh => h2 j _ hj (hds_get hh)) with ⟨k, A, B, e1, e2, e3, e4, e5⟩ | ⟨e1, e2⟩
  · refine .inl ⟨h3.2 ⟨_, hds_get (by rw [e2, ← e3, List.getElem?_append_right (Nat.le_refl _), Nat.sub_self]; rfl), ?_⟩, k, A, B, e1, e2, e3, e4, e5⟩
    have := (head_some e1).1
    show ((id.toNat : Nat) : Int) = id
    omega
  · refine .inr ⟨?_, e1⟩
    cases bb with
    | false => rfl
    | true =>
      obtain ⟨x, hx, hi⟩ := h3.1 rfl
      obtain ⟨u, hu, rfl⟩ := hds_at hx
      exact absurd hi (e2 u hu)
theorem free_tells {t : Tr} {pl : Nat → Nat} {hs : List (Option Nat)} {p : Nat} (k : Nat) (hp : p ≤ (hdsL t pl hs).length) (h1 : ∀ (j : Nat) (h : Hd), j < p → (hdsL t pl hs)[j]? = some h → h.id ≤ (j : Int)) (h2 : ∀ (j : Nat) (h : Hd), p ≤ j → (hdsL t pl hs)[j]? = some h → (j : Int) < h.id) :
    p = freeP hs ∧ (hdsL t pl hs).take p ++ hdOf t pl (p, k) :: (hdsL t pl hs).drop p = hdsL t pl (putP hs (freeP hs) k) := by
  obtain ⟨A, B, e1, e2, e3, e4, e5⟩ := opens_put hs k
  have hpe : p = freeP hs := by
    rcases Nat.lt_trichotomy p (freeP hs) with h | h | h
    · obtain ⟨u, hu⟩ : ∃ u, A[p]? = some u := ⟨_, List.getElem?_eq_getElem (by omega)⟩
      have h3 := e4 p u hu
      have h4 := h2 p _ (Nat.le_refl _) (hds_get (by rw [e1, List.getElem?_append_left (by omega)]; exact hu))
      have h5 : ((p : Nat) : Int) < ((u.1 : Nat) : Int) := h4
      omega
    · exact h
    · have hl : (hdsL t pl hs).length = A.length + B.length := by unfold hdsL; rw [List.length_map, e1, List.length_append]
      obtain ⟨u, hu⟩ : ∃ u, B[0]? = some u := ⟨_, List.getElem?_eq_getElem (by omega)⟩
      have h3 := e5 u (List.mem_of_getElem? hu)
      have h4 := h1 (freeP hs) _ h (hds_get (u := u) (by rw [e1, List.getElem?_append_right (by omega), e2, Nat.sub_self]; exact hu))
      have h5 : ((u.1 : Nat) : Int) ≤ ((freeP hs : Nat) : Int) := h4
      omega
  refine ⟨hpe, ?_⟩
  rw [hpe]
  unfold hdsL
  rw [e1, e3, List.map_append, List.map_append, List.map_cons, List.take_left' (by rw [List.length_map, e2]), List.drop_left' (by rw [List.length_map, e2])]
theorem free_mono {t : Tr} {pl : Nat → Nat} {hs : List (Option Nat)} (m j : Nat) (x y : Hd) (hmj : m ≤ j) (hx : (hdsL t pl hs)[m]? = some x) (hy : (hdsL t pl hs)[j]? = some y) (h : (m : Int) < x.id) : (j : Int) < y.id := by
  have hs := hds_sorted t pl hs
  generalize hdsL t pl ‹List (Option Nat)› = l at hs hx hy
  induction j generalizing y with
  | zero =>
    obtain rfl : m = 0 := by omega
    rw [hx] at hy
    injection hy with hy
    rw [← hy]
    exact h
  | succ j ih =>
    rcases Nat.lt_or_ge j m with h1 | h1
    · obtain rfl : m = j + 1 := by omega
      rw [hx] at hy
      injection hy with hy
      rw [← hy]
      exact h
    · have hjl := (List.getElem?_eq_some_iff.1 hy).1
      have h2 := ih _ h1 (List.getElem?_eq_getElem (by omega : j < l.length))
      have h3 := List.pairwise_iff_getElem.1 hs j (j + 1) (by omega) hjl (by omega)
      rw [List.getElem?_eq_getElem hjl] at hy
      injection hy with hy
      rw [hy] at h3
      omega
end Go.Proofs.YtimbbfneaaglbaaGreat.Heads

namespace Go.Proofs.YtimbbfneaaglbaaGreat.Heads
open Go.RowKit Go.Proofs.YtimbbfneaaglbaaGreat.Ints Go.Proofs.YtimbbfneaaglbaaGreat.Mem Go.Proofs.YtimbbfneaaglbaaGreat.Trace Go.Proofs.YtimbbfneaaglbaaGreat.Record Go.Proofs.YtimbbfneaaglbaaGreat.Log Go.Proofs.YtimbbfneaaglbaaGreat.Src Go.Proofs.YtimbbfneaaglbaaGreat.Scan

theorem cells_put (t : Tr) (hs : List (Option Nat)) (k : Nat) : cellsP t (putP hs (freeP hs) k) = cellsP t hs + (3 + idsAt t k) := by
  obtain ⟨A, B, e1, -, e3, -, -⟩ := opens_put hs k
  rw [← opens_cells t (putP hs (freeP hs) k) 0, ← opens_cells t hs 0, e1, e3]
  simp only [List.map_append, List.sum_append, List.map_cons, List.sum_cons]
  omega
theorem ids_le {t : Tr} (h : ∀ e ∈ t.events, e.ids.length ≤ 64) (k : Nat) : idsAt t k ≤ 64 := by
  unfold idsAt
  split
  · omega
  · rw [List.getD_eq_getElem?_getD]
    cases hq : t.events[k - 1]? with
    | none => show (noEv).ids.length ≤ 64; exact Nat.zero_le _
    | some e => exact h e (List.mem_of_getElem? hq)
theorem cells_bd {s : PS} (hok : OkP s) (hl : s.hs.length ≤ 100000) : cellsP s.t s.hs ≤ 6700000 := by
  have := cells_le hok.atp s.hs.length
  rw [List.take_of_length_le (Nat.le_refl _)] at this
  omega
theorem left_more {D D' : Nat → Prop} {w w' : World} (h : Left D w w') (hd : ∀ q, D q → D' q) : Left D' w w' := ⟨h.os, h.tape, h.output, h.size, fun q hq hn => h.block q hq (fun e => hn (hd q e))⟩
theorem turn_ahead {b : List Int} {f : Nat} {w w1 w' : World} {g : Nat} {D : Nat → Prop} {N : Nat} {s : PS} (hb : Below w.heap.size w w1) (h : TurnL LandL b f w1 w' g D N s) : TurnL LandL b f w w' g D N s := by
  obtain ⟨D', N', h1, h2, h3, h4⟩ := h
  exact ⟨D', N', h1, fun k e => (h2 k e).imp id (fun e => Nat.le_trans hb.size e), (Left.of_below hb).trans h3 (fun _ e => .inl e), h4⟩
theorem add_turn {b : List Int} {f : Nat} {w w' : World} {g : Nat} {D : Nat → Prop} {N : Nat} {s : PS} {q : Nat} {NA : Option Addr} {nc : Nat} {A : Option Addr} {n c : Nat} {pl : Nat → Nat} (i k : Nat) {e : Ending} (hok : OkP s)
    (h : LQ b f w g D N s q NA nc A n c pl (hdsL s.t pl s.hs) (cellsP s.t s.hs) s.peak)
    (hg : GotAdd g n c (cellsP s.t s.hs) s.peak A s.size (.pointer (some ⟨q, 0, none⟩)) (.slice NA s.t.names.length nc) (.int .i64 (pl 0 : Nat)) (hdsL s.t pl s.hs) (hdOf s.t pl (i, k)) w e w') :
    e = .returned (.tuple #[.int .i64 ((addP s k).1 : Nat), .int .i64 ((addP s k).2.1 : Nat)]) ∧ TurnL LandL b f w w' g D N (addP s k).2.2 := by
  have hn : n = countP s.hs := by rw [← h.len, hds_len]
  have hroom := hok.room
  rcases hg with ⟨h1, rfl, h3⟩ | ⟨h1, p, v', rfl, hp1, hp2, hp3, hblk, hrow, hleft, hown⟩
  · have e : addP s k = (0, 12, s) := by unfold addP; rw [if_pos (by omega)]
    rw [e]
    exact ⟨rfl, turn_below ⟨q, NA, nc, A, n, c, pl, h⟩ h3⟩
  · have e : addP s k = (freeP s.hs, 0, meterP { s with hs := putP s.hs (freeP s.hs) k }) := by unfold addP; rw [if_neg (by omega)]
    obtain ⟨f1, f2⟩ := free_tells (t := s.t) (pl := pl) k (by rw [h.len]; exact hp1) hp2 hp3
    rw [e]
    refine ⟨by rw [← f1]; rfl, fun j => D j ∨ v'.ownBlock = some j, N, ?_, fun j hj => ?_, ?_, Nat.le_add_right _ _⟩
    · obtain ⟨A', c', rfl, -, -, -, -⟩ := own_sliceN hrow
      have hc := cells_put s.t s.hs k
      have e1 : ((cellsP s.t s.hs : Nat) : Int) + (3 + (hdOf s.t pl (i, k)).ids) = ((cellsP s.t (putP s.hs (freeP s.hs) k) : Nat) : Int) := by
        rw [hc]
        show ((cellsP s.t s.hs : Nat) : Int) + (3 + ((idsAt s.t k : Nat) : Int)) = _
        omega
      have e2 : max (s.peak : Int) ((cellsP s.t (putP s.hs (freeP s.hs) k) : Nat) : Int) = ((max s.peak (cellsP s.t (putP s.hs (freeP s.hs) k)) : Nat) : Int) := by omega
      have e3 : (hdsL s.t pl s.hs).take p ++ ⟨(p : Nat), (hdOf s.t pl (i, k)).at_, (hdOf s.t pl (i, k)).ix, (hdOf s.t pl (i, k)).tm, (hdOf s.t pl (i, k)).ids⟩ :: (hdsL s.t pl s.hs).drop p = hdsL s.t pl (putP s.hs (freeP s.hs) k) := f2
      rw [e1, e2] at hblk
      rw [e3] at hrow
      refine ⟨q, NA, nc, A', n + 1, c', pl, ⟨hblk, ?_, hrow, ?_, fun j hj => .inr hj, h.walk⟩⟩
      · refine (h.ln.keep hleft.size (fun j hj hjg => hleft.block j (h.ln.lt j hj) ?_)).more (fun j hj => .inl hj) (fun j hj => ?_)
        · rintro (e | e)
          · omega
          · have := (h.row.lt j e).1; omega
        · rcases hj with hj | hj
          · exact Nat.lt_of_lt_of_le (h.ln.lt j hj) hleft.size
          · exact (hrow.lt j hj).2
      · show (hdsL s.t pl (putP s.hs (freeP s.hs) k)).length = n + 1
        have := hrow.1
        rw [rowHd_len] at this
        omega
    · rcases hj with hj | hj
      · exact .inl hj
      · rcases hown j hj with e | e
        · exact .inl (h.dv j e)
        · exact .inr e
    · exact left_more hleft (fun j hj => by
        rcases hj with rfl | hj
        · exact h.ln.dg
        · exact h.dv j hj)
set_option maxHeartbeats 8000000 in
set_option maxRecDepth 100000 in
theorem land_open (b : List Int) (f : Nat) (w : World) (g : Nat) (D : Nat → Prop) (N : Nat) (s : PS) (h : LandL b f w g D N s) (hok : OkP s) (hl : s.hs.length ≤ 100000) :
    Calls Tryz.prog 13 #[.pointer (some ⟨g, 0, none⟩)] w fun e w' => e = .returned (.tuple #[.int .i64 ((addP s 0).1 : Nat), .int .i64 ((addP s 0).2.1 : Nat)]) ∧ TurnL LandL b f w w' g D N (addP s 0).2.2 := by
  obtain ⟨q, NA, nc, A, n, c, pl, h⟩ := h
  have hn : n = countP s.hs := by rw [← h.len, hds_len]
  have hnl := count_le s.hs
  have hcl := cells_bd hok hl
  have HST := Lib.hid (startC g _ _ _ _ _ _ (pl 0) 0 w h.blk)
  have HADD := Lib.hid (fun w1 (hb : Below w.heap.size w w1) => addC g n c _ _ A s.size _ _ _ (hdsL s.t pl s.hs) (hdOf s.t pl (0, 0)) w1 (h.below hb).blk (h.below hb).row h.len (by omega) h.nc (fun m j x y => free_mono m j x y) (by show 0 ≤ ((idsAt s.t 0 : Nat) : Int) ∧ ((idsAt s.t 0 : Nat) : Int) ≤ 1000000; have := ids_le hok.ids 0; omega) (by show ((cellsP s.t s.hs : Nat) : Int) + (3 + ((idsAt s.t 0 : Nat) : Int)) ≤ 1000000000; have := ids_le hok.ids 0; omega))
  have HEND := Lib.hid (show ∀ w1 e w', Below w.heap.size w w1 → GotAdd g n c (cellsP s.t s.hs) s.peak A s.size (.pointer (some ⟨q, 0, none⟩)) (.slice NA s.t.names.length nc) (.int .i64 (pl 0 : Nat)) (hdsL s.t pl s.hs) (hdOf s.t pl (0, 0)) w1 e w' →
      e = .returned (.tuple #[.int .i64 ((addP s 0).1 : Nat), .int .i64 ((addP s 0).2.1 : Nat)]) ∧ TurnL LandL b f w w' g D N (addP s 0).2.2 from fun w1 e w' hb hg => by
    obtain ⟨h1, h2⟩ := add_turn 0 0 hok (h.below hb) hg
    exact ⟨h1, turn_ahead hb h2⟩)
  obtain ⟨r1, hr1⟩ : ∃ r, (addP s 0).1 = r := ⟨_, rfl⟩
  obtain ⟨r2, hr2⟩ : ∃ r, (addP s 0).2.1 = r := ⟨_, rfl⟩
  obtain ⟨s', hs'⟩ : ∃ r, (addP s 0).2.2 = r := ⟨_, rfl⟩
  rw [hr1, hr2, hs'] at HEND ⊢
  clear h hr1 hr2 hs'
  go_enter Tryz.func13, Tryz.ntmps13
  go_wp2_with (first
    | (go_at_call 37; refine HST.out.mono ?_; rintro e w1 ⟨rfl, hB1⟩)
    | (go_at_call 36; refine (HADD.out w1 hB1).mono ?_; intro e w2 hG; obtain ⟨rfl, hT⟩ := HEND.out w1 e w2 hB1 hG))
  refine bodyPost_ret (v := .tuple #[.int .i64 (r1 : Nat), .int .i64 (r2 : Nat)]) (by simp [results, Tryz.results13, go_sem]) rfl ?_
  exact ⟨rfl, hT⟩
end Go.Proofs.YtimbbfneaaglbaaGreat.Heads
