/-
  Of two regular expressions' tests that hold, those of a node over both: the law's Beside (stage 14). By an AI agent.
  Ways of KAlt, of KSeq, of KMany, by their kids' (stage 14). By an AI agent.
  The walks of the landed ival's endless and May. By an AI agent.
-/
import Derived.Test.YtcpmcgbjmncalaaGPathsUnion25
import Derived.Test.YtcpmcgbjmncalaaGPathsUnion26
import Derived.Test.YtcpmcgbjmncalaaGPathsUnion35
import Derived.Test.YtcpmcgbjmncalaaGPathsUnion24
import Derived.Test.YtcpmcgbjmncalaaGPathsUnion4
namespace Go.Proofs.Ytcpmcgbjmncalaa.Paths
open Go.RowKit Go.Shelf Go.Proofs.Ytcpmcgbjmncalaa.Ints Go.Proofs.Ytcpmcgbjmncalaa.Mem Go.Proofs.Ytcpmcgbjmncalaa.Src Go.Proofs.Ytcpmcgbjmncalaa.Tree Go.Proofs.Ytcpmcgbjmncalaa.BitsWalks Go.Proofs.Ytcpmcgbjmncalaa.RdW Go.Proofs.Ytcpmcgbjmncalaa.Words

/-- What holds of both: the first's below T, the second's from T on. -/
def bes (T : Nat) (x y : List Nat) (q : Nat) : Bool := (has x q && decide (q < T)) || (decide (T ≤ q) && has y (q - T))
theorem has_small {x : List Nat} (h : x.length = 1) {q : Nat} (hq : has x q = true) : q < 64 := by
  rcases Nat.lt_or_ge q 64 with e | e
  · exact e
  · unfold has at hq
    rw [out_getD (by omega), Nat.zero_testBit] at hq
    cases hq
theorem mem_ints {l : List Nat} {q : Nat} : ((q : Nat) : Int) ∈ ints l ↔ q ∈ l := by
  unfold ints
  rw [List.mem_map]
  constructor
  · rintro ⟨x, hx, e⟩
    have e : ((x : Nat) : Int) = (q : Int) := e
    obtain rfl : x = q := by omega
    exact hx
  · exact fun h => ⟨q, h, rfl⟩
theorem bes_of {T : Nat} {x y c : List Nat} (hT : T ≤ 1000) (hx : x.length = 1) (hy : y.length = 1) (hc : IsSet c (fun i => has x i && decide ((i : Int) < (T : Int)))) (q : Nat) : ofI (ints (elems 0 c ++ (elems 0 y).map (T + ·))) q = bes T x y q := by
  unfold ofI bes
  rw [Bool.eq_iff_iff, decide_eq_true_eq, Bool.or_eq_true, Bool.and_eq_true, Bool.and_eq_true, decide_eq_true_eq, decide_eq_true_eq, mem_ints, List.mem_append, has_elems, hc.2.2, List.mem_map, Bool.and_eq_true, decide_eq_true_eq]
  constructor
  · rintro ⟨-, ⟨h1, h2⟩ | ⟨t, ht, e⟩⟩
    · exact .inl ⟨h1, by omega⟩
    · rw [has_elems] at ht
      have e : T + t = q := e
      exact .inr ⟨by omega, by rw [show q - T = t by omega]; exact ht⟩
  · rintro (⟨h1, h2⟩ | ⟨h1, h2⟩)
    · have := has_small hx h1
      exact ⟨by omega, .inl ⟨h1, by omega⟩⟩
    · have := has_small hy h2
      exact ⟨by omega, .inr ⟨q - T, (has_elems _ _).2 h2, (show T + (q - T) = q by omega)⟩⟩
/-- The sets that are told so far. -/
def SetsAt (wr : World) (lo : Nat) (σ : List Value) (f : Nat → Nat → Bool) : Prop := ∀ p u, σ[p]? = some u → ∃ (zs : List Nat) (n : Nat), IsSet zs (f p) ∧ wr.ownsRow lo 62 1 u n ((ints zs).map (Value.int .u64))
theorem kept_ne {W W' : World} {lo1 lo2 n m k1 k2 : Nat} {t1 t2 : TypeId} {u v : Value} {xs ys : List Value} (h : W.ownsRow lo1 t1 k1 u n xs) (h2 : W.ownsRow lo2 t2 k2 v m ys) (hg : W.grownBy W' v.ownBlock) (hne : t1 ≠ t2) : W'.ownsRow lo1 t1 k1 u n xs := by
  refine h.kept hg ?_
  rcases h.2 with ⟨e1, -⟩ | ⟨g1, c1, cur1, e1, h4, hq1, h5⟩
  · exact .inl (by rw [e1]; rfl)
  · subst e1
    exact .inr (fun e => row_ne h h2 hne e.symm)
set_option maxHeartbeats 16000000 in
set_option maxRecDepth 100000 in
theorem lawBeside (T : Nat) (V Wd : Option Addr) (nv cv nw cw : Nat) (vs ws : Nat → List Nat) (w : World) (hT : T ≤ 1000) (hv : RdV w V nv vs) (hw : RdV w Wd nw ws) (h1 : ∀ i, (vs i).length = 1) (h2 : ∀ i, (ws i).length = 1) (hnv : nv ≤ 9) (hnw : nw ≤ 9) :
    Calls Try.prog 20 #[.int .i64 (T : Nat), .slice V nv cv, .slice Wd nw cw] w fun e w' => ∃ us, GotV w (min nv nw) us e w' ∧ ∀ i, i < min nv nw → ∀ q, has (us i) q = bes T (vs i) (ws i) q := by
  obtain ⟨iW, hiW, hw0, hw1, hw2⟩ := info_parts infoWs
  obtain ⟨iI, hiI, hi0, hi1, hi2⟩ := info_parts infoI
  have HV := Lib.hid hv
  have HW := Lib.hid hw
  have HLV := Lib.hid h1
  have HLW := Lib.hid h2
  have hTi : ((T : Nat) : Int) ≤ 1000 := by omega
  obtain ⟨m, hm⟩ : ∃ m, min nv nw = m := ⟨_, rfl⟩
  have hmi : min ((nv : Nat) : Int) ((nw : Nat) : Int) = ((m : Nat) : Int) := by omega
  have hm9 : m ≤ 9 := by omega
  have hmv : m ≤ nv := by omega
  have hmw : m ≤ nw := by omega
  rw [hm]
  clear hv hw h1 h2 hm
  have HB0 := Lib.hid (Below.refl w.heap.size w)
  go_enter Try.func20, Try.ntmps20
  go_wp2_with fail
  go_loopw [7, 17] (fun v vi wr => ∃ (i : Nat) (σ : List Value), vi = .int .i64 (i : Nat) ∧ i ≤ m ∧ σ.length = i ∧ wr.ownsRow w.heap.size 35 1 v i σ ∧ Hid (SetsAt wr w.heap.size σ fun p => bes T (vs p) (ws p)) ∧ Below w.heap.size w wr) (fun _ vi _ => m - (intOf vi).toNat)
  case atStart => exact ⟨0, [], rfl, Nat.zero_le _, rfl, World.ownsRow_nil _ _ _ _, Lib.hid (fun p u hu => by simp at hu), HB0.out⟩
  case round =>
    obtain ⟨i, σ, rfl, him, hσ, hown, hsets, hB⟩ := hrel
    have HB := Lib.hid hB
    have HO := Lib.hid hown
    have HSIG := Lib.hid hσ
    by_cases hlt : i < m
    · have hii : ((i : Nat) : Int) < ((m : Nat) : Int) := by omega
      have hiv : ((i : Nat) : Int) < ((nv : Nat) : Int) := by omega
      have hiw : ((i : Nat) : Int) < ((nw : Nat) : Int) := by omega
      obtain ⟨b, off, e1, hcv⟩ := (HV.out.below hB) (by omega)
      subst e1
      obtain ⟨K, q, c, x0, hr, hqc, hcm⟩ := hcv i (by omega)
      have hq1 : q = 1 := by rw [← hr.len]; exact HLV.out i
      have HR := Lib.hid hr
      clear hcv hB hown hσ hr
      go_wp2_with fail
      refine (refCut K 1 c (vs i) wr ((T : Nat) : Int) (by omega) (by decide) (hq1 ▸ HR.out)).mono ?_
      rintro e w1 ⟨A1, n1, c1, z1, rfl, hs1, hr1, hc1, -, hn1, hb1⟩
      have HB1 := Lib.hid (HB.out.trans (hb1.mono HB.out.size))
      have HS1 := Lib.hid hs1
      have HBR1 := Lib.hid hb1
      have hz1l := hr1.len
      clear hb1 HR
      go_wp2_with fail
      refine (refListO A1 n1 c1 z1 w1 (by omega) hr1).mono ?_
      rintro e w2 ⟨v2, rfl, hown2, hb2⟩
      have HB2 := Lib.hid (HB1.out.trans (hb2.mono HB1.out.size))
      have HBR2 := Lib.hid hb2
      have HO2 := Lib.hid hown2
      obtain ⟨b', off', e2, hcw⟩ := (HW.out.below HB2.out) (by omega)
      subst e2
      obtain ⟨K', q', c', x0', hr', -, -⟩ := hcw i (by omega)
      have hq2 : q' = 1 := by rw [← hr'.len]; exact HLW.out i
      have HR' := Lib.hid hr'
      clear hcw hr' hown2 hb2 hr1
      go_wp2_with fail
      refine (refListO K' 1 c' (ws i) w2 (by decide) (hq2 ▸ HR'.out)).mono ?_
      rintro e w3 ⟨v3, rfl, hown3, hb3⟩
      have HB3 := Lib.hid (HB2.out.trans (hb3.mono HB2.out.size))
      have HBR3 := Lib.hid hb3
      have HO3 := Lib.hid hown3
      obtain ⟨A3, c3, rfl, hc3, hcm3, -, -⟩ := own_slice hown3
      obtain ⟨ey, hey⟩ : ∃ ey, elems 0 (ws i) = ey := ⟨_, rfl⟩
      obtain ⟨ec, hec⟩ : ∃ ec, elems 0 z1 = ec := ⟨_, rfl⟩
      rw [hey] at HO3 hc3
      rw [hec] at HO2
      have hbig : (elems 0 (ws i)).length ≤ 64 := by rw [elems_len]; exact Nat.le_trans (total_le _) (by rw [HLW.out]; decide)
      have hbigc : (elems 0 z1).length ≤ 64 := by
        rw [elems_len]
        refine Nat.le_trans (total_le _) ?_
        rw [hz1l]
        omega
      rw [hey] at hbig
      rw [hec] at hbigc
      -- the numbers of the list, where they stand
      have hrd3 := Rd.own HO3.out (by rw [← hey]; exact elems_small (by rw [HLW.out]; decide))
      have HSM := Lib.hid (show (∀ t ∈ ey, t < 64) ∧ ∀ t ∈ ec, t < 64 from by
        refine ⟨fun t ht => ?_, fun t ht => ?_⟩
        · rw [← hey, has_elems] at ht
          exact has_small (HLW.out i) ht
        · rw [← hec, has_elems, HS1.out.2.2, Bool.and_eq_true] at ht
          exact has_small (HLV.out i) ht.1)
      have HD1 := Lib.hid (And.intro HBR2.out.size HBR3.out.size)
      have HEC := Lib.hid hec
      have HEY := Lib.hid hey
      have hlen : ey.length ≤ 64 := hbig
      have hleni : ((ey.length : Nat) : Int) ≤ 64 := by omega
      obtain ⟨ny, hny⟩ : ∃ ny, ey.length = ny := ⟨_, rfl⟩
      have HRD3 := Lib.hid hrd3
      have hl3 : (elems 0 (ws i)).length = ny := by rw [hey, hny]
      rw [hl3]
      clear hown3 hb3 hrd3 hey hec hs1
      go_wp2_with fail
      go_loopw [9, 33] (fun v vj wx => ∃ j : Nat, vj = .int .i64 (j : Nat) ∧ j ≤ ny ∧ wx.ownsRow w1.heap.size 3 1 v (ec.length + j) ((ints (ec ++ (ey.take j).map (T + ·))).map (Value.int .i64)) ∧ Hid (∀ k, w2.heap.size ≤ k → k < w3.heap.size → wx.heap[k]? = w3.heap[k]? ∧ v.ownBlock ≠ some k) ∧ Below w1.heap.size w1 wx ∧ w3.heap.size ≤ wx.heap.size) (fun _ vj _ => ny - (intOf vj).toNat)
      case atStart =>
        refine ⟨0, rfl, Nat.zero_le _, ?_, Lib.hid (fun k h2 h3 => ⟨rfl, fun e => ?_⟩), HBR2.out.trans (HBR3.out.mono HBR2.out.size), Nat.le_refl _⟩
        · rw [List.take_zero, List.map_nil, List.append_nil, Nat.add_zero]
          exact Mem.below_row HO2.out HBR3.out
        · have := (HO2.out.lt k e).2
          omega
      case round =>
        obtain ⟨j, rfl, hjn, hrow, hkept, hBx, hsx⟩ := hrel
        have HROW := Lib.hid hrow
        have HBX := Lib.hid hBx
        have HKP := hkept
        by_cases hlt2 : j < ny
        · have hji : ((j : Nat) : Int) < ((ny : Nat) : Int) := by omega
          obtain ⟨b3, off3, e3, hc3'⟩ := HRD3.out.cell (by omega)
          subst e3
          have hx3 : wr.cell? ⟨b3, off3 + j, none⟩ = some (.int .i64 ((ey[j]?.getD 0 : Nat) : Int)) := by
            have hin := HO3.out.lt b3 rfl
            have := hc3' j (by omega)
            rw [ints_at] at this
            exact (World.cell?_of_block (w := w3) (a := ⟨b3, off3 + j, none⟩) (hkept.out b3 hin.1 hin.2).1).trans this
          obtain ⟨t, ht⟩ : ∃ t, ey[j]?.getD 0 = t := ⟨_, rfl⟩
          rw [ht] at hx3
          have ht64 : t < 64 := by
            rw [← ht, List.getElem?_eq_getElem (by omega)]
            exact HSM.out.1 _ (List.getElem_mem _)
          have hti : ((t : Nat) : Int) ≤ 64 := by omega
          have HTK := Lib.hid (show (ey.take (j + 1)).map (T + ·) = (ey.take j).map (T + ·) ++ [T + t] from by
            rw [List.take_add_one, List.map_append, List.getElem?_eq_getElem (by omega), ← ht, List.getElem?_eq_getElem (by omega)]
            rfl)
          have hal : Below wr.heap.size wr (wr.alloc (.cells #[.int .i64 (((T : Nat) : Int) + ((t : Nat) : Int))] 3)) := (Below.refl _ _).alloc (Nat.le_refl _) _
          have HYR := Lib.hid (World.ownsRow.alloc hrow (.cells #[.int .i64 (((T : Nat) : Int) + ((t : Nat) : Int))] 3))
          have HBS := Lib.hid (show w1.heap.size ≤ (wr.alloc (.cells #[.int .i64 (((T : Nat) : Int) + ((t : Nat) : Int))] 3)).heap.size ∧ ec.length + j + 1 ≤ maxLen ∧ (ec.length + j + 1) * 8 ≤ 140737488355328 from by
            have q : maxLen = 9223372036854775807 := rfl
            have := hBx.size
            have := hal.size
            exact ⟨by omega, by omega, by omega⟩)
          have HAL := Lib.hid hal
          clear hrow hkept hBx hc3' ht hal
          go_wp2_with (at_builtin; refine wpList_append_lies (w := wr.alloc (.cells #[.int .i64 (((T : Nat) : Int) + ((t : Nat) : Int))] 3)) rfl (.tmp 37) (.tmp 41) 27 rfl w1.heap.size 3 iI _ 1 8 Try.underlying27 hiI hi0 hi1 hi2 rfl (by decide) u9 (ec.length + j) _ (by rfl) HYR.out ⟨wr.heap.size, 0, none⟩ 1 1 [.int .i64 (((T : Nat) : Int) + ((t : Nat) : Int))] (by rfl) rfl (World.news_of_block (heap_alloc_new wr _)) (fun u hu => by rw [List.mem_singleton.1 hu]; rfl) (by decide) HBS.out.2.1 HBS.out.2.2 HBS.out.1 _ rfl ?_; intro g cap wg hown hgr hq hlt)
          go_roundw
          case rel =>
            refine ⟨j + 1, by simp, by omega, ?_, Lib.hid (fun k h2 h3 => ⟨?_, fun e => ?_⟩), (HBX.out.trans (HAL.out.mono HBX.out.size)).grown hgr HBS.out.1 (fun k hk => (HYR.out.lt k hk).1), Nat.le_trans (Nat.le_trans hsx HAL.out.size) hgr.size⟩
            · rw [HTK.out, ← List.append_assoc, ints_append, List.map_append]
              exact hown
            · have hk1 := HKP.out k h2 h3
              exact ((hgr.block k (Nat.lt_of_lt_of_le (Nat.lt_of_lt_of_le h3 hsx) HAL.out.size) (fun e => hk1.2 e.symm)).trans (HAL.out.block k (Nat.lt_of_lt_of_le h3 hsx))).trans hk1.1
            · have e : some g = some k := e
              injection e with e
              rcases hq with h9 | h9
              · exact (HKP.out k h2 h3).2 (e ▸ h9)
              · have := HAL.out.size
                omega
          case measure => (show ny - (j + 1) < ny - j; omega)
        · obtain rfl : j = ny := by omega
          rw [List.take_of_length_le (by omega)] at hrow
          obtain ⟨Al, cl, e9, hcl, -, -, -⟩ := own_slice hrow
          subst e9
          have hwf : ∀ z ∈ ints (ec ++ ey.map (T + ·)), (Lit.int .i64 z).wf = true := fun z hz => by
            obtain ⟨x, hx, rfl⟩ := List.mem_map.1 hz
            have hx1 : x < 2000 := by
              rcases List.mem_append.1 hx with hx | hx
              · have := HSM.out.2 x hx
                omega
              · obtain ⟨t, ht, e⟩ := List.mem_map.1 hx
                have := HSM.out.1 t ht
                have e : T + t = x := e
                omega
            exact int_wf (by omega)
          have hrdl := Rd.own hrow hwf
          have HBR := Lib.hid (HBR1.out.trans (hBx.mono HBR1.out.size))
          have HBW := Lib.hid (HB1.out.trans (hBx.mono HB1.out.size))
          have HOF := Lib.hid (refOfO Al (ec.length + j) cl _ wr (show ec.length + j ≤ maxLen from by have q : maxLen = 9223372036854775807 := rfl; omega) hrdl)
          clear hrow hkept hBx hrdl hwf HKP HROW HBX
          go_wp2_with fail
          refine HOF.out.mono ?_
          rintro e w5 ⟨v5, n5, z5, rfl, hs5, hn5, hown5, hb5⟩
          have hbes : IsSet z5 (bes T (vs i) (ws i)) := hs5.congr (fun q => by
            rw [← HEC.out, ← HEY.out]
            exact bes_of hT (HLV.out i) (HLW.out i) HS1.out q)
          obtain ⟨A5, c5, e5, hc5, -, -, -⟩ := own_slice hown5
          subst e5
          have hal : Below w5.heap.size w5 (w5.alloc (.cells #[.slice A5 n5 c5] 35)) := (Below.refl _ _).alloc (Nat.le_refl _) _
          have HBQ := Lib.hid ((HBR.out.trans (hb5.mono HBR.out.size)).trans (hal.mono (HBR.out.trans (hb5.mono HBR.out.size)).size))
          have HBV := Lib.hid ((HBW.out.trans (hb5.mono HBW.out.size)).trans (hal.mono (HBW.out.trans (hb5.mono HBW.out.size)).size))
          have HOY := Lib.hid (Mem.below_row HO.out HBQ.out)
          have HV5 := Lib.hid (own_low (lo' := w.heap.size) (World.ownsRow.alloc hown5 (.cells #[.slice A5 n5 c5] 35)) HBW.out.size)
          have HBES := Lib.hid hbes
          have HBS := Lib.hid (show w.heap.size ≤ (w5.alloc (.cells #[.slice A5 n5 c5] 35)).heap.size ∧ i + 1 ≤ maxLen ∧ (i + 1) * 24 ≤ 140737488355328 from by
            have q : maxLen = 9223372036854775807 := rfl
            exact ⟨HBV.out.size, by omega, by omega⟩)
          clear hs5 hbes hown5 hb5 hal
          go_wp2_with (at_builtin; refine wpList_append_lies (w := w5.alloc (.cells #[.slice A5 n5 c5] 35)) rfl (.tmp 44) (.tmp 47) 30 rfl w.heap.size 35 iW _ 1 24 Try.underlying30 hiW hw0 hw1 hw2 rfl (by decide) u7 i _ (by rfl) HOY.out ⟨w5.heap.size, 0, none⟩ 1 1 [.slice A5 n5 c5] (by rfl) rfl (World.news_of_block (heap_alloc_new w5 _)) (fun u hu => by rw [List.mem_singleton.1 hu]; rfl) (by decide) HBS.out.2.1 HBS.out.2.2 HBS.out.1 _ rfl ?_; intro g cap wg hown hgr hq hlt)
          go_roundw
          case rel =>
            refine ⟨i + 1, σ ++ [.slice A5 n5 c5], by simp, by omega, by rw [List.length_append, HSIG.out]; rfl, hown, Lib.hid (fun p u hu => ?_), HBV.out.grown hgr HBS.out.1 (fun k hk => (HOY.out.lt k hk).1)⟩
            by_cases hp : p < i
            · rw [List.getElem?_append_left (by rw [HSIG.out]; exact hp)] at hu
              obtain ⟨zs, n, hz, hrw⟩ := hsets.out p u hu
              exact ⟨zs, n, hz, kept_ne (Mem.below_row hrw HBQ.out) HOY.out hgr (by decide)⟩
            · have hpi : p = i := by
                have := (List.getElem?_eq_some_iff.1 hu).1
                rw [List.length_append, HSIG.out] at this
                have : p < i + 1 := this
                omega
              subst hpi
              rw [List.getElem?_append_right (by rw [HSIG.out]; exact Nat.le_refl _), HSIG.out, Nat.sub_self] at hu
              injection hu with hu
              subst hu
              exact ⟨z5, n5, HBES.out, kept_ne HV5.out HOY.out hgr (by decide)⟩
          case measure => (show m - (i + 1) < m - i; omega)
    · obtain rfl : i = m := by omega
      obtain ⟨Ar, cr, e9, hcr, hcrm, -, -⟩ := own_slice hown
      subst e9
      have hch : ∀ p, ∃ zs : List Nat, p < i → IsSet zs (bes T (vs p) (ws p)) ∧ ∃ u n, σ[p]? = some u ∧ wr.ownsRow w.heap.size 62 1 u n ((ints zs).map (Value.int .u64)) := fun p => by
        by_cases hp : p < i
        · obtain ⟨u, hu⟩ : ∃ u, σ[p]? = some u := ⟨_, List.getElem?_eq_getElem (by omega)⟩
          obtain ⟨zs, n, hz, hrw⟩ := hsets.out p u hu
          exact ⟨zs, fun _ => ⟨hz, u, n, hu, hrw⟩⟩
        · exact ⟨[], fun h => absurd h hp⟩
      obtain ⟨us, hus⟩ := Classical.skolem.1 hch
      have HEND := Lib.hid (show ∃ us, GotV w i us (.returned (.slice Ar i cr)) wr ∧ ∀ p, p < i → ∀ q, has (us p) q = bes T (vs p) (ws p) q from by
        refine ⟨us, ⟨Ar, cr, rfl, fun h0 => ?_, hcr, hcrm, hB⟩, fun p hp q => (hus p hp).1.2.2 q⟩
        rcases hown.2 with ⟨e1, h2⟩ | ⟨g, cap, cur, e1, -⟩
        · exact absurd h2 (by omega)
        · injection e1 with e1 _ _
          subst e1
          refine ⟨g, 0, rfl, fun p hp => ?_⟩
          obtain ⟨hz, u, n, hu, hrw⟩ := hus p hp
          have hc := hown.cells (g := g) rfl p u hu
          rw [Addr.add_lit] at hc
          obtain ⟨K, c, e2, hnc, hcm2, -, -⟩ := own_slice hrw
          subst e2
          exact ⟨K, n, c, hc, RdW.own hrw hz.1, hnc, hcm2⟩)
      clear hown hsets hB hus hch HO HB
      go_wp2_with fail
      go_ret
      exact HEND.out
end Go.Proofs.Ytcpmcgbjmncalaa.Paths

namespace Go.Proofs.Ytcpmcgbjmncalaa.Paths
open Go.RowKit Go.Proofs.Ytcpmcgbjmncalaa.Ints Go.Proofs.Ytcpmcgbjmncalaa.Tree Go.Proofs.Ytcpmcgbjmncalaa.BitsWalks Go.Proofs.Ytcpmcgbjmncalaa.Words

theorem psV_has (vs : Nat → List Nat) (i k : Nat) : psV vs i k ↔ has (vs i) k = true := by
  unfold psV hasI
  rw [decide_eq_true (show (0 : Int) ≤ ((k : Nat) : Int) by omega), Bool.true_and]
  exact Iff.rfl
theorem tests_len {l : List Nd} (h : regL l = true) : (placesR l 19).length = nts (reOf l) := by
  rw [← tests_whole h, tsE_len]
  rfl
theorem bes_left {T : Nat} {x y : List Nat} {q : Nat} (hq : q < T) : bes T x y q = has x q := by
  unfold bes
  rw [decide_eq_true hq, decide_eq_false (show ¬ T ≤ q by omega), Bool.and_true, Bool.false_and, Bool.or_false]
theorem bes_right {T : Nat} {x y : List Nat} {q : Nat} : bes T x y (T + q) = has y q := by
  unfold bes
  rw [decide_eq_false (show ¬ T + q < T by omega), decide_eq_true (show T ≤ T + q by omega), Bool.and_false, Bool.false_or, Bool.true_and, Nat.add_sub_cancel_left]
section
variable {a b : List Nd} {vs ws us : Nat → List Nat} {n : Nat} (ha : regL a = true) (hb : regL b = true) (hu : ∀ i, i < n → ∀ q, has (us i) q = bes (nts (reOf a)) (vs i) (ws i) q)
include hu
theorem both_left (i j : Nat) : wayR (psV us) n (reOf a) 0 i j ↔ wayR (psV vs) n (reOf a) 0 i j := wayR_congr _ _ _ (fun p q hp hq => by
  rw [psV_has, psV_has, hu p hp, Nat.zero_add, bes_left hq]) i j
theorem both_right (i j : Nat) : wayR (psV us) n (reOf b) (0 + nts (reOf a)) i j ↔ wayR (psV ws) n (reOf b) 0 i j := wayR_congr _ _ _ (fun p q hp hq => by
  rw [psV_has, psV_has, hu p hp, Nat.zero_add, bes_right, Nat.zero_add]) i j
include ha hb
theorem alt_tab {i j : Nat} (hi : i < n) (hj : j < n) : tableR (overL (kindNd 20) a b) us n i j = (tableR a vs n i j || tableR b ws n i j) := by
  rw [Bool.eq_iff_iff, Bool.or_eq_true, table_tree (reg_two ha hb (.inl rfl)) us n hi hj, table_tree ha vs n hi hj, table_tree hb ws n hi hj]
  show wayR (psV us) n (reOf (overL (kindNd 20) a b)) 0 i j ↔ wayR (psV vs) n (reOf a) 0 i j ∨ wayR (psV ws) n (reOf b) 0 i j
  rw [reOf_two (may_of_reg ha) (may_of_reg hb) (.inl rfl), if_pos (show (kindNd 20).kind = 20 from rfl)]
  show wayR (psV us) n (reOf a) 0 i j ∨ wayR (psV us) n (shE _ (reOf b)) (0 + nts (reOf a)) i j ↔ _
  rw [wayR_shE]
  exact or_congr (both_left hu i j) (both_right hu i j)
theorem seq_tab {i j : Nat} (hi : i < n) (hj : j < n) : tableR (overL (kindNd 21) a b) us n i j = (List.range n).any fun k => tableR a vs n i k && tableR b ws n k j := by
  rw [Bool.eq_iff_iff, table_tree (reg_two ha hb (.inr rfl)) us n hi hj, List.any_eq_true]
  show wayR (psV us) n (reOf (overL (kindNd 21) a b)) 0 i j ↔ _
  rw [reOf_two (may_of_reg ha) (may_of_reg hb) (.inr rfl), if_neg (by decide)]
  show (∃ m, wayR (psV us) n (reOf a) 0 i m ∧ wayR (psV us) n (shE _ (reOf b)) (0 + nts (reOf a)) m j) ↔ _
  rw [wayR_shE]
  constructor
  · rintro ⟨m, h1, h2⟩
    have hm := (wayR_on _ _ _ _ _ _ h1).2
    refine ⟨m, List.mem_range.2 hm, ?_⟩
    rw [Bool.and_eq_true, table_tree ha vs n hi hm, table_tree hb ws n hm hj]
    exact ⟨(both_left hu i m).1 h1, (both_right hu m j).1 h2⟩
  · rintro ⟨m, hm, h⟩
    have hm := List.mem_range.1 hm
    rw [Bool.and_eq_true, table_tree ha vs n hi hm, table_tree hb ws n hm hj] at h
    exact ⟨m, (both_left hu i m).2 h.1, (both_right hu m j).2 h.2⟩
end
theorem many_way {a : List Nd} {vs : Nat → List Nat} {n : Nat} (ha : regL a = true) {i j : Nat} (hi : i < n) (hj : j < n) : tableR (overL (kindNd 22) a []) vs n i j = true ↔ Chain (wayR (psV vs) n (reOf a) 0) i j := by
  rw [table_tree (reg_one ha rfl) vs n hi hj]
  show wayR (psV vs) n (reOf (overL (kindNd 22) a [])) 0 i j ↔ _
  rw [reOf_one (may_of_reg ha) rfl]
  show (i < n ∧ Chain (wayR (psV vs) n (reOf a) 0) i j) ↔ _
  exact ⟨fun h => h.2, fun h => ⟨hi, h⟩⟩
theorem many_tab {a : List Nd} {vs : Nat → List Nat} {n : Nat} (ha : regL a = true) {i j : Nat} (hi : i < n) (hj : j < n) : tableR (overL (kindNd 22) a []) vs n i j = (decide (i = j) || (List.range n).any fun k => tableR a vs n i k && tableR (overL (kindNd 22) a []) vs n k j) := by
  rw [Bool.eq_iff_iff, Bool.or_eq_true, decide_eq_true_eq, List.any_eq_true, many_way ha hi hj, chain_iff]
  refine or_congr Iff.rfl ⟨?_, ?_⟩
  · rintro ⟨k, h1, h2⟩
    have hk := (wayR_on _ _ _ _ _ _ h1).2
    refine ⟨k, List.mem_range.2 hk, ?_⟩
    rw [Bool.and_eq_true, table_tree ha vs n hi hk, many_way ha hk hj]
    exact ⟨h1, h2⟩
  · rintro ⟨k, hk, h⟩
    have hk := List.mem_range.1 hk
    rw [Bool.and_eq_true, table_tree ha vs n hi hk, many_way ha hk hj] at h
    exact ⟨k, h.1, h.2⟩
theorem many_one {a : List Nd} {vs : Nat → List Nat} {n : Nat} (ha : regL a = true) {i j : Nat} (hi : i < n) (hj : j < n) (h : tableR a vs n i j = true) : tableR (overL (kindNd 22) a []) vs n i j = true :=
  (many_way ha hi hj).2 (chain_one ((table_tree ha vs n hi hj).1 h))
theorem any_snoc (p : Nat → Bool) (q : Nat) : (List.range (q + 1)).any p = ((List.range q).any p || p q) := by
  rw [List.range_succ, List.any_append, List.any_cons, List.any_nil, Bool.or_false]
end Go.Proofs.Ytcpmcgbjmncalaa.Paths

namespace Go.Proofs.Ytcpmcgbjmncalaa.Ival
open Go.RowKit

theorem progEndless (lo hi : Int) (w : World) :
    Calls Try.prog 86 #[span lo hi] w fun e w' => e = .returned (.bool (hi == -1)) ∧ Below w.heap.size w w' := by
  go_enter Try.func86, Try.ntmps86
  go_wp2
  go_ret
  exact ⟨rfl, (Below.refl _ _).alloc (Nat.le_refl _) _⟩

theorem progMay (lo hi : Int) (w : World) :
    Calls Try.prog 82 #[span lo hi] w fun e w' => e = .returned (.bool (mayS lo hi)) ∧ Below w.heap.size w w' := by
  have he := fun W => progEndless lo hi W
  rcases may_cases lo hi with ⟨h1, h⟩ | ⟨h1, h2, h⟩ | ⟨h1, h2, h3, h⟩ | ⟨h1, h2, h3, h4, h⟩ | ⟨h1, h2, h3, h4, h5, h⟩ | ⟨h1, h2, h3, h4, h5, h⟩
  case' inr.inr.inl =>
    subst h3
    have h3 : ((-1 : Int) == -1) = true := rfl
  case' inr.inr.inl | inr.inr.inr.inl | inr.inr.inr.inr.inl | inr.inr.inr.inr.inr =>
    rw [h3] at he
  all_goals
    rw [h]
    clear h
    have HE := Lib.hid he
    clear he
    go_enter Try.func82, Try.ntmps82
    go_wp2_with (go_at_call 86; refine (HE.out _).mono ?_; rintro e w' ⟨rfl, hb⟩; have hc0 := box0 hb; have hc1 := box1 hb)
    go_ret
    first
      | exact ⟨rfl, ((Below.refl _ _).alloc (Nat.le_refl _) _).trans (hb.mono (by simp))⟩
      | exact ⟨rfl, (Below.refl _ _).alloc (Nat.le_refl _) _⟩

end Go.Proofs.Ytcpmcgbjmncalaa.Ival
