/-
  The walk of the law TraceTurned. By an AI agent.
-/
import Derived.Test.YtlkfdnbgplkiiaaTraceTells
import Derived.Test.YtlkfdnbgplkiiaaTraceAwake
import Derived.Test.YtlkfdnbgplkiiaaTraceTurn
namespace Go.Proofs.Ytlkfdnbgplkiiaa.Trace
open Go.RowKit Go.Proofs.Ytlkfdnbgplkiiaa.Ints Go.Proofs.Ytlkfdnbgplkiiaa.Mem

theorem more_ne {v : Value} {g5 H tb n c : Nat} (h : v.ownBlock = some g5 ∨ g5 = H) (hl : ∀ q, v.ownBlock = some q → q < tb) (hH : tb < H) : (Value.slice (some ⟨g5, 0, none⟩) n c).ownBlock ≠ some tb := fun e => by
  injection e with e
  dsimp only at e
  rcases h with h | h
  · have := hl g5 h
    omega
  · omega

set_option maxHeartbeats 16000000 in
set_option maxRecDepth 100000 in
theorem lawTurned (start : Int) (A : Option Addr) (n c : Nat) (zs : List Int) (at_ what tm id : Int) (s : ByteArray) (w : World) (h0 : 0 ≤ start ∧ start ≤ 18446744073709551615) (hr : Rd .u16 w A n zs) (hc : n ≤ maxLen) (ha : 0 ≤ at_ ∧ at_ ≤ 255) (hw : 0 ≤ what ∧ what ≤ 255) (htm : (Lit.int .u64 tm).wf = true) (hid : (Lit.int .i64 id).wf = true) (hs : s.size ≤ maxLen) :
    Calls Try.prog 5 #[.int .u64 start, .slice A n c, .int .u8 at_, .int .u8 what, .int .u64 tm, .int .i64 id, .string s] w fun e w' => e = .returned (.bool true) ∧ Below w.heap.size w w' := by
  obtain ⟨iS, hiS, hy0, hy1, hy2⟩ := info_parts infoStr
  obtain ⟨iI, hiI, hx0, hx1, hx2⟩ := info_parts infoInt
  have HA := Lib.hid (fun W => awake W)
  have HMK1 := Lib.hid (lawMake start A n c zs w h0 hr hc)
  obtain ⟨M, hM⟩ : ∃ M, makeM start zs = M := ⟨_, rfl⟩
  have hmay : mayT M = true := by rw [← hM]; exact make_may zs (fun z hz => (wf_u16 (hr.all z hz)).1)
  have hnm : M.names = [[112], [113], [114]] := by rw [← hM]; rfl
  have hl60 : M.events.length ≤ 60 := by rw [← hM]; exact (make_small start zs).1
  have HNM := Lib.hid hnm
  have HN3 := Lib.hid (show M.names.length = 3 by rw [hnm]; rfl)
  have HSZ := Lib.hid (fun x (hx : x ∈ M.names) => Nat.le_trans (may_sizes hmay x hx) (by decide : 16 ≤ maxLen))
  have HSM := Lib.hid (show TrSmall M by rw [← hM]; exact make_trsmall zs)
  have HID := Lib.hid (may_ids hmay)
  rw [hM] at HMK1
  have HTM := Lib.hid htm
  have HIW := Lib.hid hid
  have HS := Lib.hid hs
  obtain ⟨hs1, hs2⟩ := h0
  obtain ⟨ha1, ha2⟩ := ha
  obtain ⟨hw1, hw2⟩ := hw
  obtain ⟨hid1, hid2⟩ := wf_i64 hid
  obtain ⟨htm1, htm2⟩ := wf_u64 htm
  clear hM hr hc hmay hnm htm hid hs
  go_enter Try.func5, Try.ntmps5
  go_wp2_with fail
  refine (HMK1.out).mono ?_
  rintro e w1 ⟨NU, un, uc, EU, ue, uk, rfl, hTU, hb1⟩
  have hun : un = 3 := by rw [← hTU.nlen, HN3.out]
  subst hun
  have HT1 := Lib.hid hTU
  have D1 := Lib.hid hb1
  clear hTU hb1
  go_wp2_with fail
  refine (lawCopy NU 3 uc EU ue uk M w1 HT1.out (by decide) HSM.out).mono ?_
  rintro e w2 ⟨gT, vN, v, σ, rfl, hgT, hRT, hb2⟩
  obtain ⟨NT, cT, rfl, -⟩ := own_sliceN hRT.names
  obtain ⟨ET, dT, rfl, -⟩ := own_sliceN hRT.evs.1
  have hσ : σ.length = ue := by rw [← HT1.out.elen, ← hRT.map, List.length_map]
  rw [hσ] at hRT ⊢
  rw [HN3.out] at hRT ⊢
  have hlowN : ∀ q, (Value.slice NT 3 cT).ownBlock = some q → q < w2.heap.size := fun q hq => (hRT.names.lt q hq).2
  have hlowE : ∀ q, (Value.slice ET ue dT).ownBlock = some q → q < w2.heap.size := fun q hq => (hRT.evs.1.lt q hq).2
  have hlowK : ∀ x ∈ σ, ∀ q, kb x = some q → q < w2.heap.size := fun x hx q hq => ((hRT.kids x hx).1.lt hq).2
  have hbt := Blk.new w2 #[.slice NT 3 cT, .slice ET ue dT] 26 _ rfl
  have hD2 := D1.out.trans (hb2.mono D1.out.size)
  obtain ⟨tb, htb⟩ : ∃ tb, w2.heap.size = tb := ⟨_, rfl⟩
  have u0 := hbt.cell 0 rfl
  have u1 := hbt.cell 1 rfl
  have HU := Lib.hid (And.intro u0 u1)
  rw [htb] at hbt hlowN hlowE hlowK u0 u1
  have h23 : Below w2.heap.size w2 (w2.alloc (.cells #[.slice NT 3 cT, .slice ET ue dT] 26)) := (Below.refl _ _).alloc (Nat.le_refl _) _
  have hRT3 := hRT.below h23
  obtain ⟨w3, hw3⟩ : ∃ w3, w2.alloc (.cells #[.slice NT 3 cT, .slice ET ue dT] 26) = w3 := ⟨_, rfl⟩
  have hs3 : w3.heap.size = tb + 1 := by rw [← hw3, ← htb]; simp
  rw [hw3] at hbt hRT3 h23
  have HRT := Lib.hid hRT3
  have HBT := Lib.hid hbt
  have D3 := Lib.hid (hD2.trans (h23.mono hD2.size))
  have HLN := Lib.hid hlowN
  have HLE := Lib.hid hlowE
  have HLK := Lib.hid hlowK
  have HS3 := Lib.hid hs3
  have HGT := Lib.hid hgT
  have HHT := Lib.hid (Nat.le_trans D1.out.size (show w1.heap.size ≤ w1.heap.size + 2 by omega))
  have HSG := Lib.hid hσ
  have HWT := Lib.hid (show w1.heap.size ≤ tb by have := hb2.size; rw [htb] at this; exact this)
  have v0 := HBT.out.cell 0 rfl
  have v1 := HBT.out.cell 1 rfl
  clear hRT hRT3 hbt hb2 hσ hlowN hlowE hlowK hD2 h23 hs3 hgT u0 u1
  go_wp2_with fail
  refine (lawCopy NT 3 cT ET ue dT M w3 (HRT.out.tr HN3.out HSZ.out) (by decide) HSM.out).mono ?_
  rintro e w4 ⟨gU, vN, v, τ, rfl, hgU, hRU, hb4⟩
  obtain ⟨NV, cV, rfl, -⟩ := own_sliceN hRU.names
  obtain ⟨EV, dV, rfl, -⟩ := own_sliceN hRU.evs.1
  have hτ : τ.length = ue := by rw [← HT1.out.elen, ← hRU.map, List.length_map]
  rw [hτ] at hRU ⊢
  rw [HN3.out] at hRU ⊢
  obtain ⟨ub, hub⟩ : ∃ ub, w4.heap.size = ub := ⟨_, rfl⟩
  have hbu := Blk.new w4 #[.slice NV 3 cV, .slice EV ue dV] 26 _ rfl
  rw [hub] at hbu
  obtain ⟨X, hX⟩ : ∃ X, w4.alloc (.cells #[.slice NV 3 cV, .slice EV ue dV] 26) = X := ⟨_, rfl⟩
  have h4X : Below w4.heap.size w4 X := by rw [← hX]; exact (Below.refl _ _).alloc (Nat.le_refl _) _
  rw [hX] at hbu
  have h3X := hb4.trans (h4X.mono hb4.size)
  have HRT := Lib.hid (HRT.out.below h3X)
  have HBT := Lib.hid (HBT.out.later h3X)
  have HRU := Lib.hid (hRU.below h4X)
  have HBU := Lib.hid hbu
  have DX := Lib.hid (D3.out.trans (h3X.mono D3.out.size))
  have HGU := Lib.hid hgU
  have HUB := Lib.hid (show tb + 1 ≤ ub by have := hb4.size; rw [HS3.out, hub] at this; exact this)
  have HUX := Lib.hid (show ub < X.heap.size from HBU.out.1)
  have HW4 := Lib.hid (show what % 4 = 0 ∨ what % 4 = 1 ∨ what % 4 = 2 ∨ what % 4 = 3 by omega)
  have HXB := Lib.hid (show w1.heap.size + 2 ≤ X.heap.size by have := HUX.out; have := HUB.out; have := HWT.out; omega)
  have p0 := HBT.out.cell 0 rfl
  have p1 := HBT.out.cell 1 rfl
  have hue60 : ue ≤ 60 := by rw [← HT1.out.elen]; exact hl60
  clear hRU hb4 hτ hbu h4X h3X hgU v0 v1
  -- cases
  rcases Nat.eq_zero_or_pos ue with hz | hz
  · subst hz
    have z00 : decide ((0 : Int) > 0) = false := by decide
    rcases HW4.out with hq | hq | hq | hq
    · have hq0 : (what.tmod 4 == 0) = true := by rw [Int.tmod_eq_emod_of_nonneg hw1, hq]; rfl
      have hN := HRT.out.names
      rw [HN3.out] at hN
      obtain ⟨gN, cN, eN, hgN1, hgN2, -, -⟩ := own_form hN (by omega)
      injection eN with eN _ eC
      subst eN
      subst eC
      have j3 : at_ % 3 < 3 := by omega
      obtain ⟨j, hj⟩ : ∃ j : Nat, at_ % 3 = (j : Int) := Int.eq_ofNat_of_zero_le (by omega)
      have hj3 : j < 3 := by omega
      have hj3' : (j : Int) < 3 := by omega
      have hjm : at_.tmod 3 = (j : Int) := by rw [Int.tmod_eq_emod_of_nonneg ha1]; exact hj
      have n0 : X.cell? ⟨gN, j, none⟩ = some (strS (M.names.getD j [])) := by
        rw [hN.cellAt j (by omega), List.getElem?_map, List.getElem?_eq_getElem (by rw [HN3.out]; exact hj3)]
        simp [List.getD, show j < M.names.length by rw [HN3.out]; exact hj3]
      have n1 : X.frozen? ⟨gN, j, none⟩ = false := hN.frozenAt _
      have hlo := HLN.out gN rfl
      have hT := turn_name HRT.out HN3.out HSZ.out j s HS.out
      have hU := (HRU.out.set HGU.out gN j (.string s) (by have := HS3.out; omega)).tr HN3.out HSZ.out
      have q0 := (HBT.out.other ⟨gN, j, none⟩ (.string s) (by show tb ≠ gN; omega)).cell 0 rfl
      have q1 := (HBT.out.other ⟨gN, j, none⟩ (.string s) (by show tb ≠ gN; omega)).cell 1 rfl
      have q2 := (HBU.out.other ⟨gN, j, none⟩ (.string s) (by show ub ≠ gN; have := HUB.out; omega)).cell 0 rfl
      have q3 := (HBU.out.other ⟨gN, j, none⟩ (.string s) (by show ub ≠ gN; have := HUB.out; omega)).cell 1 rfl
      have T := Lib.hid (lawTells (some ⟨gN, 0, none⟩) 3 cT ET 0 dT NV 3 cV EV 0 dV ⟨M.names.set j s.data.toList, M.events⟩ M (0 : Int) s (X.setCell ⟨gN, j, none⟩ (.string s)) hT hU ⟨by show (M.names.set j _).length ≤ _; rw [List.length_set]; exact HSM.out.1, HSM.out.2, HSM.out.3⟩ HSM.out ⟨by omega, by omega⟩)
      have B7 := Lib.hid (DX.out.setCell (p := ⟨gN, j, none⟩) (by show w.heap.size ≤ gN; have := HHT.out; omega) (.string s))
      clear hT hU hN hj
      go_wp2_with (first
        | (go_at_call 14; refine T.out.mono ?_; rintro e w8 ⟨rfl, hb8⟩)
        | (go_at_call 9; refine (HA.out _).mono ?_; rintro e w9 ⟨rfl, hb9⟩))
      go_ret
      exact ⟨rfl, (B7.out.trans (hb8.mono B7.out.size)).trans (hb9.mono (Nat.le_trans B7.out.size hb8.size))⟩
    · have hq0 : (what.tmod 4 == 0) = false := by rw [Int.tmod_eq_emod_of_nonneg hw1, hq]; rfl
      have hq1 : (what.tmod 4 == 1) = true := by rw [Int.tmod_eq_emod_of_nonneg hw1, hq]; rfl
      have hN := HRT.out.names
      rw [HN3.out] at hN
      have hXs := HUX.out
      go_wp2_with (first
        | (at_builtin; refine wpList_append_lies (w := X.alloc (.cells #[.string s] 9)) rfl (.tmp 69) (.tmp 71) 22 rfl (w1.heap.size + 2) 9 iS _ 1 16 Try.underlying22 hiS hy0 hy1 hy2 rfl (by decide) (.slice NT 3 cT) 3 _ (by rfl) (World.ownsRow.alloc hN _) ⟨X.heap.size, 0, none⟩ 1 1 [.string s] (by rfl) rfl (World.news_of_block (heap_alloc_new X _)) (fun u hu => by rw [List.mem_singleton.1 hu]; rfl) (by decide) (by decide) (by decide) (Nat.le_trans HXB.out (size_one _ _)) _ rfl ?_; intro g5 c5 W5 own5 gr5 at5 lt5; have hall := (Below.refl X.heap.size X).alloc (Nat.le_refl _) (.cells #[.string s] 9); have bt5 := (HBT.out.later hall).grown gr5 (fun e => by have := HLN.out _ e.symm; omega); have bu5 := (HBU.out.later hall).grown gr5 (fun e => by have := HLN.out _ e.symm; have := HUB.out; omega); have z0 := bt5.cell 0 rfl; have z1 := bt5.fz 0 rfl; have bt6 := bt5.set 0 (.slice (some ⟨g5, 0, none⟩) (3 + 1) c5) (by simp); have bu6 := bu5.other ⟨tb, 0, none⟩ (.slice (some ⟨g5, 0, none⟩) (3 + 1) c5) (by show ub ≠ tb; have := HUB.out; omega); have q0 := bt6.cell 0 rfl; have q1 := bt6.cell 1 rfl; have q2 := bu6.cell 0 rfl; have q3 := bu6.cell 1 rfl; have hT := turn_more (u := .slice (some ⟨g5, 0, none⟩) (3 + 1) c5) (HRT.out.below hall) HSZ.out s HS.out gr5 own5 (more_ne at5 HLN.out (by have := HUB.out; simp; omega)) HLE.out HLK.out; have hU := (((HRU.out.below hall).grown HGU.out gr5 (fun z hz => by have := HLN.out z hz; have := HS3.out; omega)).set HGU.out tb 0 (.slice (some ⟨g5, 0, none⟩) (3 + 1) c5) (by have := HS3.out; omega)).tr HN3.out HSZ.out; have T := Lib.hid (lawTells (some ⟨g5, 0, none⟩) (3 + 1) c5 ET 0 dT NV 3 cV EV 0 dV ⟨M.names ++ [s.data.toList], M.events⟩ M (0 : Int) s (W5.setCell ⟨tb, 0, none⟩ (.slice (some ⟨g5, 0, none⟩) (3 + 1) c5)) hT hU ⟨by show (M.names ++ _).length ≤ _; rw [List.length_append, HN3.out]; show 3 + 1 ≤ 1048576; decide, HSM.out.2, HSM.out.3⟩ HSM.out ⟨by omega, by omega⟩); have B7 := Lib.hid (((DX.out.trans (hall.mono DX.out.size)).grown gr5 (Nat.le_trans DX.out.size (size_one _ _)) (fun z hz => by have := (World.ownsRow.lt hN z hz).1; have := HHT.out; omega)).setCell (p := ⟨tb, 0, none⟩) (by show w.heap.size ≤ tb; have := HHT.out; have := HWT.out; have := D1.out.size; omega) (.slice (some ⟨g5, 0, none⟩) (3 + 1) c5)); clear own5 gr5 at5 lt5 bt5 bu5 bt6 bu6 hT hU hall)
        | (go_at_call 14; refine T.out.mono ?_; rintro e w8 ⟨rfl, hb8⟩)
        | (go_at_call 9; refine (HA.out _).mono ?_; rintro e w9 ⟨rfl, hb9⟩))
      go_ret
      exact ⟨rfl, (B7.out.trans (hb8.mono B7.out.size)).trans (hb9.mono (Nat.le_trans B7.out.size hb8.size))⟩
    · have hq0 : (what.tmod 4 == 0) = false := by rw [Int.tmod_eq_emod_of_nonneg hw1, hq]; rfl
      have hq1 : (what.tmod 4 == 1) = false := by rw [Int.tmod_eq_emod_of_nonneg hw1, hq]; rfl
      have hN := HRT.out.names
      rw [HN3.out] at hN
      have hXs := HUX.out
      go_wp2_with (first
        | (at_builtin; refine wpList_append_lies (w := X.alloc (.cells #[.string s] 9)) rfl (.tmp 69) (.tmp 71) 22 rfl (w1.heap.size + 2) 9 iS _ 1 16 Try.underlying22 hiS hy0 hy1 hy2 rfl (by decide) (.slice NT 3 cT) 3 _ (by rfl) (World.ownsRow.alloc hN _) ⟨X.heap.size, 0, none⟩ 1 1 [.string s] (by rfl) rfl (World.news_of_block (heap_alloc_new X _)) (fun u hu => by rw [List.mem_singleton.1 hu]; rfl) (by decide) (by decide) (by decide) (Nat.le_trans HXB.out (size_one _ _)) _ rfl ?_; intro g5 c5 W5 own5 gr5 at5 lt5; have hall := (Below.refl X.heap.size X).alloc (Nat.le_refl _) (.cells #[.string s] 9); have bt5 := (HBT.out.later hall).grown gr5 (fun e => by have := HLN.out _ e.symm; omega); have bu5 := (HBU.out.later hall).grown gr5 (fun e => by have := HLN.out _ e.symm; have := HUB.out; omega); have z0 := bt5.cell 0 rfl; have z1 := bt5.fz 0 rfl; have bt6 := bt5.set 0 (.slice (some ⟨g5, 0, none⟩) (3 + 1) c5) (by simp); have bu6 := bu5.other ⟨tb, 0, none⟩ (.slice (some ⟨g5, 0, none⟩) (3 + 1) c5) (by show ub ≠ tb; have := HUB.out; omega); have q0 := bt6.cell 0 rfl; have q1 := bt6.cell 1 rfl; have q2 := bu6.cell 0 rfl; have q3 := bu6.cell 1 rfl; have hT := turn_more (u := .slice (some ⟨g5, 0, none⟩) (3 + 1) c5) (HRT.out.below hall) HSZ.out s HS.out gr5 own5 (more_ne at5 HLN.out (by have := HUB.out; simp; omega)) HLE.out HLK.out; have hU := (((HRU.out.below hall).grown HGU.out gr5 (fun z hz => by have := HLN.out z hz; have := HS3.out; omega)).set HGU.out tb 0 (.slice (some ⟨g5, 0, none⟩) (3 + 1) c5) (by have := HS3.out; omega)).tr HN3.out HSZ.out; have T := Lib.hid (lawTells (some ⟨g5, 0, none⟩) (3 + 1) c5 ET 0 dT NV 3 cV EV 0 dV ⟨M.names ++ [s.data.toList], M.events⟩ M (0 : Int) s (W5.setCell ⟨tb, 0, none⟩ (.slice (some ⟨g5, 0, none⟩) (3 + 1) c5)) hT hU ⟨by show (M.names ++ _).length ≤ _; rw [List.length_append, HN3.out]; show 3 + 1 ≤ 1048576; decide, HSM.out.2, HSM.out.3⟩ HSM.out ⟨by omega, by omega⟩); have B7 := Lib.hid (((DX.out.trans (hall.mono DX.out.size)).grown gr5 (Nat.le_trans DX.out.size (size_one _ _)) (fun z hz => by have := (World.ownsRow.lt hN z hz).1; have := HHT.out; omega)).setCell (p := ⟨tb, 0, none⟩) (by show w.heap.size ≤ tb; have := HHT.out; have := HWT.out; have := D1.out.size; omega) (.slice (some ⟨g5, 0, none⟩) (3 + 1) c5)); clear own5 gr5 at5 lt5 bt5 bu5 bt6 bu6 hT hU hall)
        | (go_at_call 14; refine T.out.mono ?_; rintro e w8 ⟨rfl, hb8⟩)
        | (go_at_call 9; refine (HA.out _).mono ?_; rintro e w9 ⟨rfl, hb9⟩))
      go_ret
      exact ⟨rfl, (B7.out.trans (hb8.mono B7.out.size)).trans (hb9.mono (Nat.le_trans B7.out.size hb8.size))⟩
    · have hq0 : (what.tmod 4 == 0) = false := by rw [Int.tmod_eq_emod_of_nonneg hw1, hq]; rfl
      have hq1 : (what.tmod 4 == 1) = false := by rw [Int.tmod_eq_emod_of_nonneg hw1, hq]; rfl
      have hN := HRT.out.names
      rw [HN3.out] at hN
      have hXs := HUX.out
      go_wp2_with (first
        | (at_builtin; refine wpList_append_lies (w := X.alloc (.cells #[.string s] 9)) rfl (.tmp 69) (.tmp 71) 22 rfl (w1.heap.size + 2) 9 iS _ 1 16 Try.underlying22 hiS hy0 hy1 hy2 rfl (by decide) (.slice NT 3 cT) 3 _ (by rfl) (World.ownsRow.alloc hN _) ⟨X.heap.size, 0, none⟩ 1 1 [.string s] (by rfl) rfl (World.news_of_block (heap_alloc_new X _)) (fun u hu => by rw [List.mem_singleton.1 hu]; rfl) (by decide) (by decide) (by decide) (Nat.le_trans HXB.out (size_one _ _)) _ rfl ?_; intro g5 c5 W5 own5 gr5 at5 lt5; have hall := (Below.refl X.heap.size X).alloc (Nat.le_refl _) (.cells #[.string s] 9); have bt5 := (HBT.out.later hall).grown gr5 (fun e => by have := HLN.out _ e.symm; omega); have bu5 := (HBU.out.later hall).grown gr5 (fun e => by have := HLN.out _ e.symm; have := HUB.out; omega); have z0 := bt5.cell 0 rfl; have z1 := bt5.fz 0 rfl; have bt6 := bt5.set 0 (.slice (some ⟨g5, 0, none⟩) (3 + 1) c5) (by simp); have bu6 := bu5.other ⟨tb, 0, none⟩ (.slice (some ⟨g5, 0, none⟩) (3 + 1) c5) (by show ub ≠ tb; have := HUB.out; omega); have q0 := bt6.cell 0 rfl; have q1 := bt6.cell 1 rfl; have q2 := bu6.cell 0 rfl; have q3 := bu6.cell 1 rfl; have hT := turn_more (u := .slice (some ⟨g5, 0, none⟩) (3 + 1) c5) (HRT.out.below hall) HSZ.out s HS.out gr5 own5 (more_ne at5 HLN.out (by have := HUB.out; simp; omega)) HLE.out HLK.out; have hU := (((HRU.out.below hall).grown HGU.out gr5 (fun z hz => by have := HLN.out z hz; have := HS3.out; omega)).set HGU.out tb 0 (.slice (some ⟨g5, 0, none⟩) (3 + 1) c5) (by have := HS3.out; omega)).tr HN3.out HSZ.out; have T := Lib.hid (lawTells (some ⟨g5, 0, none⟩) (3 + 1) c5 ET 0 dT NV 3 cV EV 0 dV ⟨M.names ++ [s.data.toList], M.events⟩ M (0 : Int) s (W5.setCell ⟨tb, 0, none⟩ (.slice (some ⟨g5, 0, none⟩) (3 + 1) c5)) hT hU ⟨by show (M.names ++ _).length ≤ _; rw [List.length_append, HN3.out]; show 3 + 1 ≤ 1048576; decide, HSM.out.2, HSM.out.3⟩ HSM.out ⟨by omega, by omega⟩); have B7 := Lib.hid (((DX.out.trans (hall.mono DX.out.size)).grown gr5 (Nat.le_trans DX.out.size (size_one _ _)) (fun z hz => by have := (World.ownsRow.lt hN z hz).1; have := HHT.out; omega)).setCell (p := ⟨tb, 0, none⟩) (by show w.heap.size ≤ tb; have := HHT.out; have := HWT.out; have := D1.out.size; omega) (.slice (some ⟨g5, 0, none⟩) (3 + 1) c5)); clear own5 gr5 at5 lt5 bt5 bu5 bt6 bu6 hT hU hall)
        | (go_at_call 14; refine T.out.mono ?_; rintro e w8 ⟨rfl, hb8⟩)
        | (go_at_call 9; refine (HA.out _).mono ?_; rintro e w9 ⟨rfl, hb9⟩))
      go_ret
      exact ⟨rfl, (B7.out.trans (hb8.mono B7.out.size)).trans (hb9.mono (Nat.le_trans B7.out.size hb8.size))⟩
  · have z00 : decide ((ue : Int) > 0) = true := by simp; omega
    have zz0 : ((ue : Int) == 0) = false := by simp; omega
    obtain ⟨i, hi0⟩ : ∃ i : Nat, at_ % (ue : Int) = (i : Int) := Int.eq_ofNat_of_zero_le (Int.emod_nonneg _ (by omega))
    have hi : i < ue := by have := Int.emod_lt_of_pos at_ (show (0 : Int) < (ue : Int) by omega); omega
    have hti : at_.tmod (ue : Int) = (i : Int) := by rw [Int.tmod_eq_emod_of_nonneg ha1]; exact hi0
    have hii : (i : Int) < (ue : Int) := by omega
    have hi00 : (0 : Int) ≤ (i : Int) := by omega
    rcases HW4.out with hq | hq | hq | hq
    · have hq0 : (what.tmod 4 == 0) = true := by rw [Int.tmod_eq_emod_of_nonneg hw1, hq]; rfl
      have hN := HRT.out.names
      rw [HN3.out] at hN
      obtain ⟨gN, cN, eN, hgN1, hgN2, -, -⟩ := own_form hN (by omega)
      injection eN with eN _ eC
      subst eN
      subst eC
      have j3 : at_ % 3 < 3 := by omega
      obtain ⟨j, hj⟩ : ∃ j : Nat, at_ % 3 = (j : Int) := Int.eq_ofNat_of_zero_le (by omega)
      have hj3 : j < 3 := by omega
      have hj3' : (j : Int) < 3 := by omega
      have hjm : at_.tmod 3 = (j : Int) := by rw [Int.tmod_eq_emod_of_nonneg ha1]; exact hj
      have n0 : X.cell? ⟨gN, j, none⟩ = some (strS (M.names.getD j [])) := by
        rw [hN.cellAt j (by omega), List.getElem?_map, List.getElem?_eq_getElem (by rw [HN3.out]; exact hj3)]
        simp [List.getD, show j < M.names.length by rw [HN3.out]; exact hj3]
      have n1 : X.frozen? ⟨gN, j, none⟩ = false := hN.frozenAt _
      have hlo := HLN.out gN rfl
      have hT := turn_name HRT.out HN3.out HSZ.out j s HS.out
      have hU := (HRU.out.set HGU.out gN j (.string s) (by have := HS3.out; omega)).tr HN3.out HSZ.out
      have q0 := (HBT.out.other ⟨gN, j, none⟩ (.string s) (by show tb ≠ gN; omega)).cell 0 rfl
      have q1 := (HBT.out.other ⟨gN, j, none⟩ (.string s) (by show tb ≠ gN; omega)).cell 1 rfl
      have q2 := (HBU.out.other ⟨gN, j, none⟩ (.string s) (by show ub ≠ gN; have := HUB.out; omega)).cell 0 rfl
      have q3 := (HBU.out.other ⟨gN, j, none⟩ (.string s) (by show ub ≠ gN; have := HUB.out; omega)).cell 1 rfl
      have T := Lib.hid (lawTells (some ⟨gN, 0, none⟩) 3 cT ET ue dT NV 3 cV EV ue dV ⟨M.names.set j s.data.toList, M.events⟩ M (i : Int) s (X.setCell ⟨gN, j, none⟩ (.string s)) hT hU ⟨by show (M.names.set j _).length ≤ _; rw [List.length_set]; exact HSM.out.1, HSM.out.2, HSM.out.3⟩ HSM.out ⟨by omega, by omega⟩)
      have B7 := Lib.hid (DX.out.setCell (p := ⟨gN, j, none⟩) (by show w.heap.size ≤ gN; have := HHT.out; omega) (.string s))
      clear hT hU hN hj
      go_wp2_with (first
        | (go_at_call 14; refine T.out.mono ?_; rintro e w8 ⟨rfl, hb8⟩)
        | (go_at_call 9; refine (HA.out _).mono ?_; rintro e w9 ⟨rfl, hb9⟩))
      go_ret
      exact ⟨rfl, (B7.out.trans (hb8.mono B7.out.size)).trans (hb9.mono (Nat.le_trans B7.out.size hb8.size))⟩
    · have hq0 : (what.tmod 4 == 0) = false := by rw [Int.tmod_eq_emod_of_nonneg hw1, hq]; rfl
      have hq1 : (what.tmod 4 == 1) = true := by rw [Int.tmod_eq_emod_of_nonneg hw1, hq]; rfl
      have hN := HRT.out.names
      rw [HN3.out] at hN
      have hXs := HUX.out
      go_wp2_with (first
        | (at_builtin; refine wpList_append_lies (w := X.alloc (.cells #[.string s] 9)) rfl (.tmp 69) (.tmp 71) 22 rfl (w1.heap.size + 2) 9 iS _ 1 16 Try.underlying22 hiS hy0 hy1 hy2 rfl (by decide) (.slice NT 3 cT) 3 _ (by rfl) (World.ownsRow.alloc hN _) ⟨X.heap.size, 0, none⟩ 1 1 [.string s] (by rfl) rfl (World.news_of_block (heap_alloc_new X _)) (fun u hu => by rw [List.mem_singleton.1 hu]; rfl) (by decide) (by decide) (by decide) (Nat.le_trans HXB.out (size_one _ _)) _ rfl ?_; intro g5 c5 W5 own5 gr5 at5 lt5; have hall := (Below.refl X.heap.size X).alloc (Nat.le_refl _) (.cells #[.string s] 9); have bt5 := (HBT.out.later hall).grown gr5 (fun e => by have := HLN.out _ e.symm; omega); have bu5 := (HBU.out.later hall).grown gr5 (fun e => by have := HLN.out _ e.symm; have := HUB.out; omega); have z0 := bt5.cell 0 rfl; have z1 := bt5.fz 0 rfl; have bt6 := bt5.set 0 (.slice (some ⟨g5, 0, none⟩) (3 + 1) c5) (by simp); have bu6 := bu5.other ⟨tb, 0, none⟩ (.slice (some ⟨g5, 0, none⟩) (3 + 1) c5) (by show ub ≠ tb; have := HUB.out; omega); have q0 := bt6.cell 0 rfl; have q1 := bt6.cell 1 rfl; have q2 := bu6.cell 0 rfl; have q3 := bu6.cell 1 rfl; have hT := turn_more (u := .slice (some ⟨g5, 0, none⟩) (3 + 1) c5) (HRT.out.below hall) HSZ.out s HS.out gr5 own5 (more_ne at5 HLN.out (by have := HUB.out; simp; omega)) HLE.out HLK.out; have hU := (((HRU.out.below hall).grown HGU.out gr5 (fun z hz => by have := HLN.out z hz; have := HS3.out; omega)).set HGU.out tb 0 (.slice (some ⟨g5, 0, none⟩) (3 + 1) c5) (by have := HS3.out; omega)).tr HN3.out HSZ.out; have T := Lib.hid (lawTells (some ⟨g5, 0, none⟩) (3 + 1) c5 ET ue dT NV 3 cV EV ue dV ⟨M.names ++ [s.data.toList], M.events⟩ M (i : Int) s (W5.setCell ⟨tb, 0, none⟩ (.slice (some ⟨g5, 0, none⟩) (3 + 1) c5)) hT hU ⟨by show (M.names ++ _).length ≤ _; rw [List.length_append, HN3.out]; show 3 + 1 ≤ 1048576; decide, HSM.out.2, HSM.out.3⟩ HSM.out ⟨by omega, by omega⟩); have B7 := Lib.hid (((DX.out.trans (hall.mono DX.out.size)).grown gr5 (Nat.le_trans DX.out.size (size_one _ _)) (fun z hz => by have := (World.ownsRow.lt hN z hz).1; have := HHT.out; omega)).setCell (p := ⟨tb, 0, none⟩) (by show w.heap.size ≤ tb; have := HHT.out; have := HWT.out; have := D1.out.size; omega) (.slice (some ⟨g5, 0, none⟩) (3 + 1) c5)); clear own5 gr5 at5 lt5 bt5 bu5 bt6 bu6 hT hU hall)
        | (go_at_call 14; refine T.out.mono ?_; rintro e w8 ⟨rfl, hb8⟩)
        | (go_at_call 9; refine (HA.out _).mono ?_; rintro e w9 ⟨rfl, hb9⟩))
      go_ret
      exact ⟨rfl, (B7.out.trans (hb8.mono B7.out.size)).trans (hb9.mono (Nat.le_trans B7.out.size hb8.size))⟩
    · have hq0 : (what.tmod 4 == 0) = false := by rw [Int.tmod_eq_emod_of_nonneg hw1, hq]; rfl
      have hq1 : (what.tmod 4 == 1) = false := by rw [Int.tmod_eq_emod_of_nonneg hw1, hq]; rfl
      have hq2 : (what.tmod 4 == 2) = true := by rw [Int.tmod_eq_emod_of_nonneg hw1, hq]; rfl
      obtain ⟨gE, eE, hgE1, hgE2⟩ := own_some HRT.out.evs hz
      subst eE
      obtain ⟨sv, hsv⟩ : ∃ sv, σ[i]? = some sv := ⟨_, List.getElem?_eq_getElem (by rw [HSG.out]; exact hi)⟩
      obtain ⟨x, K, cK⟩ := sv
      have hat := HRT.out.evs.at hsv
      have hE0 := hat 0 (by omega)
      have hE1 := hat 1 (by omega)
      rw [Nat.add_zero] at hE0
      simp only [cellsS, List.getElem?_cons_succ, List.getElem?_cons_zero] at hE0 hE1
      have hloE := HLE.out gE rfl
      obtain ⟨e00, e01⟩ := hE0
      have hT := turn_time HRT.out HN3.out HSZ.out hsv tm HTM.out
      have hU := (HRU.out.set HGU.out gE (i * 2) (.int .u64 tm) (by have := HS3.out; omega)).tr HN3.out HSZ.out
      have q0 := (HBT.out.other ⟨gE, i * 2, none⟩ (.int .u64 tm) (by show tb ≠ gE; omega)).cell 0 rfl
      have q1 := (HBT.out.other ⟨gE, i * 2, none⟩ (.int .u64 tm) (by show tb ≠ gE; omega)).cell 1 rfl
      have q2 := (HBU.out.other ⟨gE, i * 2, none⟩ (.int .u64 tm) (by show ub ≠ gE; have := HUB.out; omega)).cell 0 rfl
      have q3 := (HBU.out.other ⟨gE, i * 2, none⟩ (.int .u64 tm) (by show ub ≠ gE; have := HUB.out; omega)).cell 1 rfl
      have hxm : x ∈ M.events := by rw [← HRT.out.map]; exact List.mem_map.2 ⟨_, List.mem_of_getElem? hsv, rfl⟩
      have T := Lib.hid (lawTells NT 3 cT (some ⟨gE, 0, none⟩) ue dT NV 3 cV EV ue dV ⟨M.names, M.events.set i ⟨tm, x.ids⟩⟩ M (i : Int) s (X.setCell ⟨gE, i * 2, none⟩ (.int .u64 tm)) hT hU ⟨HSM.out.1, by show (M.events.set _ _).length ≤ _; rw [List.length_set]; exact HSM.out.2, fun y hy => (List.mem_or_eq_of_mem_set hy).elim (HSM.out.3 y) (fun e => by rw [e]; exact HSM.out.3 x hxm)⟩ HSM.out ⟨by omega, by omega⟩)
      have B7 := Lib.hid (DX.out.setCell (p := ⟨gE, i * 2, none⟩) (by show w.heap.size ≤ gE; have := HHT.out; have := HGT.out; omega) (.int .u64 tm))
      clear hT hU hat hE1 hsv
      go_wp2_with (first
        | (go_at_call 14; refine T.out.mono ?_; rintro e w8 ⟨rfl, hb8⟩)
        | (go_at_call 9; refine (HA.out _).mono ?_; rintro e w9 ⟨rfl, hb9⟩))
      go_ret
      exact ⟨rfl, (B7.out.trans (hb8.mono B7.out.size)).trans (hb9.mono (Nat.le_trans B7.out.size hb8.size))⟩
    · have hq0 : (what.tmod 4 == 0) = false := by rw [Int.tmod_eq_emod_of_nonneg hw1, hq]; rfl
      have hq1 : (what.tmod 4 == 1) = false := by rw [Int.tmod_eq_emod_of_nonneg hw1, hq]; rfl
      have hq2 : (what.tmod 4 == 2) = false := by rw [Int.tmod_eq_emod_of_nonneg hw1, hq]; rfl
      obtain ⟨gE, eE, hgE1, hgE2⟩ := own_some HRT.out.evs hz
      subst eE
      obtain ⟨sv, hsv⟩ : ∃ sv, σ[i]? = some sv := ⟨_, List.getElem?_eq_getElem (by rw [HSG.out]; exact hi)⟩
      obtain ⟨x, K, cK⟩ := sv
      have hat := HRT.out.evs.at hsv
      have hE0 := hat 0 (by omega)
      have hE1 := hat 1 (by omega)
      rw [Nat.add_zero] at hE0
      simp only [cellsS, List.getElem?_cons_succ, List.getElem?_cons_zero] at hE0 hE1
      have hloE := HLE.out gE rfl
      have hm := List.mem_of_getElem? hsv
      have hxm : x ∈ M.events := by rw [← HRT.out.map]; exact List.mem_map.2 ⟨_, hm, rfl⟩
      have hx64 := HID.out x hxm
      obtain ⟨hkr, hkE⟩ := HRT.out.kids _ hm
      have hkl := HLK.out _ hm
      obtain ⟨q, hq'⟩ : ∃ q, x.ids.length = q := ⟨_, rfl⟩
      have HQ := Lib.hid hq'
      have HSV := Lib.hid hsv
      have hkr2 : X.ownsRow (gT + 1) 3 1 (.slice K q cK) q (x.ids.map (Value.int .i64)) := by have h1 := hkr; unfold KidRow at h1; rw [← hq']; exact h1
      have hxw : ∀ z ∈ x.ids, (Lit.int .i64 z).wf = true := (HRT.out.evs.2 _ hm).1.2.1.all
      rw [hq'] at hE1 hx64
      obtain ⟨V, hV⟩ : ∃ V, V = X.drew := ⟨_, rfl⟩
      have hXV : Below X.heap.size X V := by rw [hV]; exact (Below.refl _ X).drew
      have HKR := Lib.hid (below_row hkr2 hXV)
      have HRV := Lib.hid (HRT.out.below hXV)
      have HRW := Lib.hid (HRU.out.below hXV)
      have HBV := Lib.hid (HBT.out.later hXV)
      have HBW := Lib.hid (HBU.out.later hXV)
      have HVX := Lib.hid hXV
      have HXW := Lib.hid hxw
      have HKL := Lib.hid hkl
      have HKE := Lib.hid hkE
      have HCE := Lib.hid (And.intro (below_cell hXV hE1.1) ((hXV.frozen (p := ⟨gE, i * 2 + 1, none⟩) hgE2).trans hE1.2))
      have HGE := Lib.hid (And.intro hgE1 hgE2)
      have HI := Lib.hid hi
      clear hE0 hE1 hat hsv hm hxm hkr hkE hkl hkr2 hxw hXV hq'
      go_wp2_with fail
      refine Late.drew [12] (S := fun W => W.cell? ⟨tb, 1, none⟩ = some (.slice (some ⟨gE, 0, none⟩) ue dT) ∧ W.cell? ⟨gE, i * 2 + 1, none⟩ = some (.slice K q cK)) (by kernel_rfl) (by rw [← hV]; exact ⟨HBV.out.cell 1 rfl, HCE.out.1⟩) (fun hHeld => ?_)
      rw [← hV] at hHeld ⊢
      clear hV
      refine Late.take (i := 0) (oi := ?tko1) (v := ?tkv1) ?tkh1 (by kernel_rfl) (by kernel_rfl) (by kernel_rfl) (by kernel_rfl) ?tkq1 ?tky1 hHeld ?tkr1
      case tkh1 => (simp only [List.getElem?_toArray, List.getElem?_cons_zero]; rfl)
      case tkq1 => exact fun _ _ _ h => h
      case tky1 => exact Or.inl ⟨by rfl, by intro wSw hSw; (try dsimp only at hSw); go_simp; try with_reducible rfl⟩
      try simp only [Act.put, List.setIfInBounds_toArray, List.set_cons_zero, List.set_cons_succ]
      refine Late.take (i := 1) (oi := ?tko2) (v := ?tkv2) ?tkh2 (by kernel_rfl) (by kernel_rfl) (by kernel_rfl) (by kernel_rfl) ?tkq2 ?tky2 hHeld ?tkr2
      case tkh2 => (simp only [List.getElem?_toArray, List.getElem?_cons_succ, List.getElem?_cons_zero]; rfl)
      case tkq2 => exact fun _ _ _ h => h
      case tky2 => exact Or.inl ⟨by rfl, by intro wSw hSw; (try dsimp only at hSw); go_simp; try with_reducible rfl⟩
      try simp only [Act.put, List.setIfInBounds_toArray, List.set_cons_zero, List.set_cons_succ]
      refine Late.take (i := 2) (oi := ?tko3) (v := ?tkv3) ?tkh3 (by kernel_rfl) (by kernel_rfl) (by kernel_rfl) (by kernel_rfl) ?tkq3 ?tky3 hHeld ?tkr3
      case tkh3 => (simp only [List.getElem?_toArray, List.getElem?_cons_succ, List.getElem?_cons_zero]; rfl)
      case tkq3 => exact fun _ _ _ h => h
      case tky3 => exact Or.inl ⟨by rfl, by intro wSw hSw; (try dsimp only at hSw); go_simp; try with_reducible rfl⟩
      try simp only [Act.put, List.setIfInBounds_toArray, List.set_cons_zero, List.set_cons_succ]
      refine Late.take (i := 3) (oi := ?tko4) (v := ?tkv4) ?tkh4 (by kernel_rfl) (by kernel_rfl) (by kernel_rfl) (by kernel_rfl) ?tkq4 ?tky4 hHeld ?tkr4
      case tkh4 => (simp only [List.getElem?_toArray, List.getElem?_cons_succ, List.getElem?_cons_zero]; rfl)
      case tkq4 => exact fun _ _ _ h => h
      case tky4 => exact Or.inl ⟨by rfl, by intro wSw hSw; (try dsimp only at hSw); go_simp; try with_reducible rfl⟩
      try simp only [Act.put, List.setIfInBounds_toArray, List.set_cons_zero, List.set_cons_succ]
      refine Late.take (i := 4) (oi := ?tko5) (v := ?tkv5) ?tkh5 (by kernel_rfl) (by kernel_rfl) (by kernel_rfl) (by kernel_rfl) ?tkq5 ?tky5 hHeld ?tkr5
      case tkh5 => (simp only [List.getElem?_toArray, List.getElem?_cons_succ, List.getElem?_cons_zero]; rfl)
      case tkq5 => exact fun _ _ _ h => h
      case tky5 => exact Or.inl ⟨by rfl, by intro wSw hSw; (try dsimp only at hSw); go_simp; try with_reducible rfl⟩
      try simp only [Act.put, List.setIfInBounds_toArray, List.set_cons_zero, List.set_cons_succ]
      refine Late.take (i := 5) (oi := ?tko6) (v := ?tkv6) ?tkh6 (by kernel_rfl) (by kernel_rfl) (by kernel_rfl) (by kernel_rfl) ?tkq6 ?tky6 hHeld ?tkr6
      case tkh6 => (simp only [List.getElem?_toArray, List.getElem?_cons_succ, List.getElem?_cons_zero]; rfl)
      case tkq6 => exact fun _ _ _ h => h
      case tky6 => exact Or.inl ⟨by rfl, by intro wSw hSw; (try dsimp only at hSw); go_simp; try with_reducible rfl⟩
      try simp only [Act.put, List.setIfInBounds_toArray, List.set_cons_zero, List.set_cons_succ]
      refine Late.take (i := 6) (oi := ?tko7) (v := ?tkv7) ?tkh7 (by kernel_rfl) (by kernel_rfl) (by kernel_rfl) (by kernel_rfl) ?tkq7 ?tky7 hHeld ?tkr7
      case tkh7 => (simp only [List.getElem?_toArray, List.getElem?_cons_succ, List.getElem?_cons_zero]; rfl)
      case tkq7 => exact fun _ _ _ h => h
      case tky7 => exact Or.inl ⟨by rfl, by intro wSw hSw; (try dsimp only at hSw); go_simp; try with_reducible rfl⟩
      try simp only [Act.put, List.setIfInBounds_toArray, List.set_cons_zero, List.set_cons_succ]
      refine Late.take (i := 7) (oi := ?tko8) (v := ?tkv8) ?tkh8 (by kernel_rfl) (by kernel_rfl) (by kernel_rfl) (by kernel_rfl) ?tkq8 ?tky8 hHeld ?tkr8
      case tkh8 => (simp only [List.getElem?_toArray, List.getElem?_cons_succ, List.getElem?_cons_zero]; rfl)
      case tkq8 => exact fun _ _ _ h => h
      case tky8 => exact Or.inl ⟨by rfl, by intro wSw hSw; (try dsimp only at hSw); go_simp; try with_reducible rfl⟩
      try simp only [Act.put, List.setIfInBounds_toArray, List.set_cons_zero, List.set_cons_succ]
      refine Late.take (i := 8) (oi := ?tko9) (v := ?tkv9) ?tkh9 (by kernel_rfl) (by kernel_rfl) (by kernel_rfl) (by kernel_rfl) ?tkq9 ?tky9 hHeld ?tkr9
      case tkh9 => (simp only [List.getElem?_toArray, List.getElem?_cons_succ, List.getElem?_cons_zero]; rfl)
      case tkq9 => exact fun _ _ _ h => h
      case tky9 => exact Or.inl ⟨by rfl, by intro wSw hSw; (try dsimp only at hSw); go_simp; try with_reducible rfl⟩
      try simp only [Act.put, List.setIfInBounds_toArray, List.set_cons_zero, List.set_cons_succ]
      refine Late.take (i := 9) (oi := ?tko10) (v := ?tkv10) ?tkh10 (by kernel_rfl) (by kernel_rfl) (by kernel_rfl) (by kernel_rfl) ?tkq10 ?tky10 hHeld ?tkr10
      case tkh10 => (simp only [List.getElem?_toArray, List.getElem?_cons_succ, List.getElem?_cons_zero]; rfl)
      case tkq10 => exact fun _ _ _ h => h
      case tky10 => exact Or.inl ⟨by rfl, by intro wSw hSw; (try dsimp only at hSw); go_simp; try with_reducible rfl⟩
      try simp only [Act.put, List.setIfInBounds_toArray, List.set_cons_zero, List.set_cons_succ]
      have hall : Below V.heap.size V (V.alloc (.cells #[.int .i64 id] 3)) := (Below.refl _ V).alloc (Nat.le_refl _) _
      refine Late.early (k := 10) (o := ?tko11) (by kernel_rfl) (by kernel_rfl) ?tkh11 (fun Kt11 hKt11 => ?_)
      case tkh11 => (simp only [List.getElem?_toArray, List.getElem?_cons_succ, List.getElem?_cons_zero]; rfl)
      go_simp
      refine hKt11.out _ _ ?_ (fun hHt11 => ?_)
      · (exact ⟨(HBV.out.later hall).cell 1 rfl, below_cell hall HCE.out.1⟩)
      clear hKt11 Kt11 hHeld
      have hHeld := hHt11
      clear hHt11
      try simp only [Act.put, List.setIfInBounds_toArray, List.set_cons_zero, List.set_cons_succ]
      have hVs := HVX.out.size
      have hXs := HUX.out
      have hub := HUB.out
      have hge := HGE.out
      have hkN : (Value.slice K q cK).ownBlock = kb (x, K, cK) := kb_own K q cK
      have hne1 : some tb ≠ (Value.slice K q cK).ownBlock := fun e => by rw [hkN] at e; have := HKL.out tb e.symm; omega
      have hne2 : some ub ≠ (Value.slice K q cK).ownBlock := fun e => by rw [hkN] at e; have := HKL.out ub e.symm; omega
      have hne3 : some gE ≠ (Value.slice K q cK).ownBlock := fun e => by
        rw [hkN] at e
        rcases HKE.out with e2 | e2
        · rw [e2] at e; cases e
        · exact e2 (by rw [← e]; rfl)
      refine Late.early (k := 11) (o := ?tko12) (by kernel_rfl) (by kernel_rfl) ?tkh12 (fun Kt12 hKt12 => ?_)
      case tkh12 => (simp only [List.getElem?_toArray, List.getElem?_cons_succ, List.getElem?_cons_zero]; rfl)
      (refine step_append_lies (w := V.alloc (.cells #[.int .i64 id] 3)) rfl (.tmp 42) (.tmp 44) 23 rfl (gT + 1) 3 iI _ 1 8 Try.underlying23 hiI hx0 hx1 hx2 rfl (by decide) (.slice K q cK) q _ (by rfl) (World.ownsRow.alloc HKR.out _) ⟨V.heap.size, 0, none⟩ 1 1 [.int .i64 id] (by rfl) rfl (World.news_of_block (heap_alloc_new V _)) (fun u hu => by rw [List.mem_singleton.1 hu]; rfl) (by decide) (by have : maxLen = 9223372036854775807 := rfl; omega) (by omega) (Nat.le_trans (by omega) (size_one _ _)) _ rfl ?_; intro g5 c5 W5 own5 gr5 at5 lt5; have bt5 := (HBV.out.later hall).grown gr5 hne1; have bE5 := gr5.block gE (Nat.lt_of_lt_of_le (by omega) (size_one V _)) hne3; have cE5 := (World.cell?_of_block (a := ⟨gE, i * 2 + 1, none⟩) bE5).trans (below_cell hall HCE.out.1); have fE5 := ((World.frozen?_of_block (a := ⟨gE, i * 2 + 1, none⟩) bE5).trans (hall.frozen (p := ⟨gE, i * 2 + 1, none⟩) (by show gE < _; omega))).trans HCE.out.2)
      refine hKt12.out _ _ ?_ (fun hHt12 => ?_)
      · (exact ⟨bt5.cell 1 rfl, cE5⟩)
      clear hKt12 Kt12 hHeld
      have hHeld := hHt12
      clear hHt12
      try simp only [Act.put, List.setIfInBounds_toArray, List.set_cons_zero, List.set_cons_succ]
      refine Late.last (k := 12) (o := ?tko13) (by kernel_rfl) (by kernel_rfl) ?tkh13 (fun Kt13 hKt13 => ?_)
      case tkh13 => (simp only [List.getElem?_toArray, List.getElem?_cons_succ, List.getElem?_cons_zero]; rfl)
      go_simp
      refine hKt13.out _ _ trivial (fun hHt13 => ?_)
      clear hKt13 Kt13 hHeld
      have hHeld := hHt13
      clear hHt13
      try simp only [Act.put, List.setIfInBounds_toArray, List.set_cons_zero, List.set_cons_succ]
      refine wpAnyH_take (i := 13) (oi := ?tko14) (v := ?tkv14) ?tkh14 (by kernel_rfl) (by kernel_rfl) (by kernel_rfl) ?tkq14 ?tky14 hHeld ?tkr14
      case tkh14 => (simp only [List.getElem?_toArray, List.getElem?_cons_succ, List.getElem?_cons_zero]; rfl)
      case tkq14 => exact fun _ _ _ h => h
      case tky14 => exact Or.inl ⟨by rfl, by intro wSw hSw; (try dsimp only at hSw); go_simp; try with_reducible rfl⟩
      try simp only [Act.put, List.setIfInBounds_toArray, List.set_cons_zero, List.set_cons_succ]
      refine wpAnyH_ready (rs := [14]) (by kernel_rfl) (by simp) ?_
      refine AllReadyH.cons (o := ?tko15) ?tkh15 (fun Kt15 hKt15 => ?_) AllReadyH.nil
      case tkh15 => (simp only [List.getElem?_toArray, List.getElem?_cons_succ, List.getElem?_cons_zero]; rfl)
      go_simp
      (skip)
      refine hKt15.out _ _ ?_ (fun hHt15 => ?_)
      · (trivial)
      clear hKt15 Kt15 hHeld
      have hHeld := hHt15
      clear hHt15
      try simp only [Act.put, List.setIfInBounds_toArray, List.set_cons_zero, List.set_cons_succ]
      refine wpAnyH_done (by kernel_rfl) ?_ _
      clear hHeld cE5 fE5
      have hql : (x.ids ++ [id]).length = q + 1 := by rw [List.length_append, HQ.out]; rfl
      have bu5 := (HBW.out.later hall).grown gr5 hne2
      have hT := turn_ids (HRV.out.below hall) HN3.out HSZ.out HSV.out (by rw [← hkN]; exact gr5) (l := x.ids ++ [id]) (gK := g5) (cK := c5) (by rw [hql, List.map_append]; exact own5) (fun z hz => (List.mem_append.1 hz).elim (HXW.out z) (fun e => by rw [List.mem_singleton.1 e]; exact HIW.out)) (at5.imp (fun e => by rw [← hkN]; exact e) (fun e => Nat.le_of_eq e.symm))
      rw [hql] at hT
      have hU := (((HRW.out.below hall).grown HGU.out gr5 (fun z hz => by rw [hkN] at hz; have := HKL.out z hz; have := HS3.out; omega)).set HGU.out gE (i * 2 + 1) (.slice (some ⟨g5, 0, none⟩) (q + 1) c5) (by have := HS3.out; omega)).tr HN3.out HSZ.out
      have bt6 := bt5.other ⟨gE, i * 2 + 1, none⟩ (.slice (some ⟨g5, 0, none⟩) (q + 1) c5) (by show tb ≠ gE; omega)
      have bu6 := bu5.other ⟨gE, i * 2 + 1, none⟩ (.slice (some ⟨g5, 0, none⟩) (q + 1) c5) (by show ub ≠ gE; omega)
      have q0 := bt6.cell 0 rfl
      have q1 := bt6.cell 1 rfl
      have q2 := bu6.cell 0 rfl
      have q3 := bu6.cell 1 rfl
      have T := Lib.hid (lawTells NT 3 cT (some ⟨gE, 0, none⟩) ue dT NV 3 cV EV ue dV ⟨M.names, M.events.set i ⟨x.time, x.ids ++ [id]⟩⟩ M (i : Int) s (W5.setCell ⟨gE, i * 2 + 1, none⟩ (.slice (some ⟨g5, 0, none⟩) (q + 1) c5)) hT hU ⟨HSM.out.1, by show (M.events.set _ _).length ≤ _; rw [List.length_set]; exact HSM.out.2, fun y hy => (List.mem_or_eq_of_mem_set hy).elim (HSM.out.3 y) (fun e => by rw [e]; show (x.ids ++ [id]).length ≤ _; omega)⟩ HSM.out ⟨by omega, by omega⟩)
      have hDV := DX.out.trans (HVX.out.mono DX.out.size)
      have B7 := Lib.hid (((hDV.trans (hall.mono hDV.size)).grown gr5 (Nat.le_trans hDV.size (size_one _ _)) (fun z hz => by have := (World.ownsRow.lt HKR.out z hz).1; have := HHT.out; have := HGT.out; omega)).setCell (p := ⟨gE, i * 2 + 1, none⟩) (by show w.heap.size ≤ gE; have := HHT.out; have := HGT.out; omega) (.slice (some ⟨g5, 0, none⟩) (q + 1) c5))
      clear hT hU own5 gr5 at5 lt5 bt5 bt6 bu5 bu6 bE5 hall hDV hql hne1 hne2 hne3 hkN
      go_wp2_with (first
        | (go_at_call 14; refine T.out.mono ?_; rintro e w8 ⟨rfl, hb8⟩)
        | (go_at_call 9; refine (HA.out _).mono ?_; rintro e w9 ⟨rfl, hb9⟩))
      go_ret
      exact ⟨rfl, (B7.out.trans (hb8.mono B7.out.size)).trans (hb9.mono (Nat.le_trans B7.out.size hb8.size))⟩
end Go.Proofs.Ytlkfdnbgplkiiaa.Trace
