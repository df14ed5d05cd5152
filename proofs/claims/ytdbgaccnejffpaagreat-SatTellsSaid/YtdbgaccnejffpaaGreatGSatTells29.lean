/-
  The reference's vals: a regular expression's part, and which of its tests hold where (stage 15). By an AI agent.
  Operations that are not wanted, a row of them passed, in few words. By an AI agent.
  The walks of the reference's functions on intervals. By an AI agent.
-/
import Derived.Test.YtdbgaccnejffpaaGreatGSatTells19
import Derived.Test.YtdbgaccnejffpaaGreatGSatTells25
import Derived.Test.YtdbgaccnejffpaaGreatGSatTells27
import Derived.Test.YtdbgaccnejffpaaGreatGSatTells10
import Derived.Test.YtdbgaccnejffpaaGreatGSatTells12
import Derived.Test.YtdbgaccnejffpaaGreatGSatTells28
import Derived.Test.YtdbgaccnejffpaaGreatGSatTells1
import Derived.Test.YtdbgaccnejffpaaGreatGSatTells3
import Derived.Test.YtdbgaccnejffpaaGreatGSatTells8
namespace Go.Proofs.YtdbgaccnejffpaaGreat.Sat
open Go.RowKit Go.Proofs.YtdbgaccnejffpaaGreat.Ints Go.Proofs.YtdbgaccnejffpaaGreat.Mem Go.Proofs.YtdbgaccnejffpaaGreat.Src Go.Proofs.YtdbgaccnejffpaaGreat.Paths Go.Proofs.YtdbgaccnejffpaaGreat.Late Go.Proofs.YtdbgaccnejffpaaGreat.Trace
def TvR (w : World) (B k n : Nat) (t : Tr) (l : List Tree.Nd) : Prop := ∀ i, i < k → Tree.formKind (kindN l i) = true → ∃ b, w.cell? ⟨B, i, none⟩ = some (.slice (some ⟨b, 0, none⟩) n n) ∧ RB w b n (tvN t l i)
theorem TvR.below {w w' : World} {B k n : Nat} {t : Tr} {l : List Tree.Nd} (h : TvR w B k n t l) (hb : Below w.heap.size w w') : TvR w' B k n t l := fun i hi hf => by
 obtain ⟨b, h1, h2⟩ := h i hi hf
 exact ⟨b, below_cell hb h1, h2.below hb⟩
structure VW (w : World) (lo B n i : Nat) (f : Nat → Nat → Bool) (vs : Nat → List Nat) (σ : List Value) : Prop where
 row : w.ownsRow lo 117 1 (.slice (some ⟨B, 0, none⟩) n n) n σ
 told : ∀ j, j < i → ∃ K q c, σ[j]? = some (.slice K q c) ∧ w.ownsRow lo 28 1 (.slice K q c) q ((RdW.ints (vs j)).map (Value.int .u64)) ∧ (Value.slice K q c).ownBlock ≠ some B ∧ Words.IsSet (vs j) (f j)
section
variable {w w' : World} {lo B n i : Nat} {f : Nat → Nat → Bool} {vs : Nat → List Nat} {σ : List Value}
theorem VW.below (h : VW w lo B n i f vs σ) (hb : Below w.heap.size w w') : VW w' lo B n i f vs σ :=
 ⟨below_row h.row hb, fun j hj => by
  obtain ⟨K, q, c, h1, h2, h3⟩ := h.told j hj
  exact ⟨K, q, c, h1, below_row h2 hb, h3⟩⟩
theorem VW.at (h : VW w lo B n i f vs σ) {j : Nat} {v : Value} (hv : σ[j]? = some v) : w.cell? ⟨B, j, none⟩ = some v := by
 have := World.ownsRow.cells h.row (g := B) rfl j v hv
 rwa [Addr.add_lit, Nat.zero_add] at this
theorem VW.put (h : VW w lo B n i f vs σ) (hi : i < n) {K : Option Addr} {q c : Nat} {zs : List Nat} (hK : w.ownsRow lo 28 1 (.slice K q c) q ((RdW.ints zs).map (Value.int .u64))) (hne : (Value.slice K q c).ownBlock ≠ some B) (hs : Words.IsSet zs (f i)) :
  VW (w.setCell ⟨B, i, none⟩ (.slice K q c)) lo B n (i + 1) f (fun j => if j = i then zs else vs j) (σ.set i (.slice K q c)) := by
 have hlen : σ.length = n := by have := h.row.1; rwa [Nat.mul_one] at this
 refine ⟨own_put h.row _, fun j hj => ?_⟩
 by_cases e : j = i
 ·subst e
  rw [if_pos rfl]
  exact ⟨K, q, c, by rw [List.getElem?_set, if_pos rfl, if_pos (by omega)], row_other hK hne, hne, hs⟩
 ·obtain ⟨K', q', c', h1, h2, h3, h4⟩ := h.told j (by omega)
  rw [if_neg e]
  exact ⟨K', q', c', by rw [List.getElem?_set, if_neg (fun x => e x.symm)]; exact h1, row_other h2 h3, h3, h4⟩
end
def fiL (f : Nat → Bool) (k : Nat) : List Nat := (List.range k).filter f
theorem fiL_next (f : Nat → Bool) (k : Nat) : fiL f (k + 1) = fiL f k ++ (if f k = true then [k] else []) := by
 unfold fiL
 rw [List.range_succ, List.filter_append, List.filter_cons, List.filter_nil]
theorem fiL_of {f : Nat → Bool} {m : Nat} (hm : m ≤ 1000) (q : Nat) : BitsWalks.ofI ((fiL f m).map fun k => ((k : Nat) : Int)) q = (decide (q < m) && f q) := by
 unfold BitsWalks.ofI fiL
 rw [Bool.eq_iff_iff, decide_eq_true_eq, Bool.and_eq_true, decide_eq_true_eq, List.mem_map]
 constructor
 ·rintro ⟨-, x, hx, e⟩
  obtain rfl : x = q := by omega
  rw [List.mem_filter, List.mem_range] at hx
  exact hx
 ·rintro ⟨h1, h2⟩
  exact ⟨by omega, q, by rw [List.mem_filter, List.mem_range]; exact ⟨h1, h2⟩, rfl⟩
theorem infoW2 : (Tryz.prog.info? 117).map (fun i => (i.zero, i.size, i.bytes)) = some (some (.slice none 0 0), 1, 24) := by kernel_rfl
def GotVs (w : World) (n : Nat) (P : List Tree.Nd) (f : Nat → Nat → Bool) (e : Ending) (w' : World) : Prop :=
 ∃ (AP : Option Addr) (cP : Nat) (V : Option Addr) (vs : Nat → List Nat), e = .returned (.tuple #[.slice AP P.length cP, .slice V n n]) ∧ Tree.Nodes Tree.Any w' AP P ∧ (P.length ≤ cP ∧ cP ≤ maxLen) ∧ RdV w' V n vs ∧ (∀ p, p < n → ∀ q, psV vs p q ↔ (decide (q < (placesR P 19).length) && f p q) = true) ∧ Below w.heap.size w w'
set_option maxHeartbeats 16000000 in
set_option maxRecDepth 100000 in
theorem refVals (A : Option Addr) (nl cl : Nat) (l : List Tree.Nd) (B at_ root n : Nat) (t : Tr) (w : World) (hN : Tree.Nodes Tree.Any w A l) (hl : l.length = nl) (hml : Tree.mayL l = true) (hnl : nl ≤ cl) (hl1 : nl ≤ 1000) (hrt : root < nl) (hreg : Tree.regKind (kindN l root) = true) (hat : root < at_) (hT : TvR w B at_ n t l) (hn : n ≤ 64) :
  Calls Tryz.prog 61 #[.slice A nl cl, .int .i64 ((root : Nat) : Int), .slice (some ⟨B, 0, none⟩) nl nl, .int .i64 ((n : Nat) : Int)] w (GotVs w n (Tree.partL l (root : Int)) (fun p q => tvN t l (kidN l (Tree.startL l root + ((placesR (Tree.partL l (root : Int)) 19)[q]?).getD 0) 0) p)) := by
 have q63 : maxLen = 9223372036854775807 := rfl
 obtain ⟨i0, hi, hz0, hz1, hz2⟩ := info_parts infoI
 obtain ⟨iW, hiW, hw0, hw1, hw2⟩ := info_parts infoW2
 have b2 : iW.bytes * n ≤ 281474976710656 := by rw [hw2]; omega
 have b3 : n ≤ maxLen := by omega
 have HP := Lib.hid (Tree.refPart A nl cl (root : Int) l w hl (by omega) hnl hN ⟨by omega, by omega⟩)
 have HS := Lib.hid (fun W (hb : Below w.heap.size w W) => Tree.refStart A nl cl root l W hl (by omega) hrt hml (hN.below hb))
 obtain ⟨wp1, wp2, wp3, -⟩ := part_way hml (tmOf t) (fun _ => []) (show root < l.length by omega) hreg
 obtain ⟨P, hP⟩ : ∃ P, Tree.partL l (root : Int) = P := ⟨_, rfl⟩
 obtain ⟨s0, hs0⟩ : ∃ s, Tree.startL l root = s := ⟨_, rfl⟩
 rw [hP] at HP wp1 wp2 wp3 ⊢
 rw [hs0] at HS wp3 ⊢
 have hpl := places_len P 19
 obtain ⟨ts, hts⟩ : ∃ ts, placesR P 19 = ts := ⟨_, rfl⟩
 rw [hts] at wp3 hpl ⊢
 have HTS := Lib.hid (show ∀ q y, ts[q]? = some y → s0 + y ≤ root ∧ kindN l (s0 + y) = 19 from fun q y hy => wp3 y (List.mem_of_getElem? hy))
 obtain ⟨f, hf⟩ : ∃ f : Nat → Nat → Bool, (fun p q => tvN t l (kidN l (s0 + (ts[q]?).getD 0) 0) p) = f := ⟨_, rfl⟩
 have HF := Lib.hid (fun p q => congrFun (congrFun hf p) q)
 rw [hf]
 have HND := Lib.hid (fun W (hb : Below w.heap.size w W) z (hz : z < nl) => node_cells (hN.below hb) hml (show z < l.length by omega))
 have HT := Lib.hid hT
 have HML := Lib.hid (And.intro hml hl)
 obtain ⟨nt, hnt⟩ : ∃ q, ts.length = q := ⟨_, rfl⟩
 have hnt1 : nt ≤ 1000 := by omega
 obtain ⟨np, hnp⟩ : ∃ q, P.length = q := ⟨_, rfl⟩
 have hnp1 : np ≤ 1000 := by omega
 have HX := Lib.hid (And.intro hnt (And.intro hnp (And.intro hts wp1)))
 have hni : ((n : Nat) : Int) ≤ 64 := by omega
 have hnli : ((nl : Nat) : Int) ≤ 1000 := by omega
 clear hN hl hml hnl hreg hT hP hs0 hts hf hpl wp1 wp2 wp3 hnt hnp
 go_enter Tryz.func61, Tryz.ntmps61
 go_wp2_with fail
 refine HP.out.mono ?_
 rintro e w1 ⟨AP, cP, rfl, hNP, hc1, hc2, hb1⟩
 rw [HX.out.2.1] at hc1 ⊢
 have HN1 := Lib.hid (hNP.mono (S' := Tree.Any) fun _ _ _ => trivial)
 have HB1 := Lib.hid hb1
 have HC1 := Lib.hid (And.intro hc1 hc2)
 clear hNP hc1 hc2 hb1
 go_wp2_with fail
 refine (HS.out _ HB1.out).mono ?_
 rintro e w2 ⟨rfl, hw2e⟩
 rw [hw2e]
 clear hw2e
 go_wp2_with fail
 refine (refTests AP np cP P w1 HX.out.2.1 HC1.out.1 (by omega) HN1.out).mono ?_
 rintro e w3 ⟨AT, cT, rfl, hRT, hcT, hcTm, hb3, -⟩
 rw [HX.out.2.2.1, HX.out.1] at hRT hcT ⊢
 have HRT := Lib.hid hRT
 have HB3 := Lib.hid (HB1.out.trans (hb3.mono HB1.out.size))
 have HN3 := Lib.hid (HN1.out.below hb3)
 have hcT2 : nt ≤ cT := hcT
 clear hRT hcT hcTm hb3
 go_wp2_with (at_make; refine wpList_make_full _ rfl (.tmp 26) (.tmp 26) 86 rfl w.heap.size 117 iW (.slice none 0 0) 1 Tryz.underlying86 hiW hw0 hw1 .i64 .i64 _ _ n rfl rfl rfl rfl b2 b3 HB3.out.size ?_; intro w4 hmade hgr4; rw [made_slices] at hmade)
 have hg4 : Below w3.heap.size w3 w4 := ⟨hgr4.os, hgr4.tape, hgr4.output, hgr4.size, fun k hk => hgr4.block k hk (by simp)⟩
 obtain ⟨BV, hBV⟩ : ∃ B, w3.heap.size = B := ⟨_, rfl⟩
 have HV0 := Lib.hid (show VW w4 w.heap.size BV n 0 (fun p q => decide (q < nt) && f p q) (fun _ => []) (List.replicate n (.slice none 0 0)) from ⟨by rw [← hBV]; exact hmade, fun j hj => absurd hj (Nat.not_lt_zero _)⟩)
 have HB4 := Lib.hid (HB3.out.trans (hg4.mono HB3.out.size))
 have HG4 := Lib.hid hg4
 have HBVe := Lib.hid hBV
 have HBV := Lib.hid (show w.heap.size ≤ BV from by rw [← hBV]; exact HB3.out.size)
 rw [hBV]
 clear hmade hgr4 hg4 hBV
 go_loopw [14, 15, 16, 17, 29] (fun _ _ _ _ v wr => ∃ (i : Nat) (σ : List Value) (vs : Nat → List Nat), v = .int .i64 ((i : Nat) : Int) ∧ i ≤ n ∧ VW wr w.heap.size BV n i (fun p q => decide (q < nt) && f p q) vs σ ∧ Below w3.heap.size w3 wr) (fun _ _ _ _ v _ => n - (intOf v).toNat)
 case atStart => exact ⟨0, _, _, rfl, Nat.zero_le _, HV0.out, HG4.out⟩
 case round =>
  obtain ⟨i, σ, vs, rfl, hin, hV, hBw⟩ := hrel
  have HV := Lib.hid hV
  have HW := Lib.hid hBw
  have HW0 := Lib.hid (HB3.out.trans (hBw.mono HB3.out.size))
  clear hV hBw
  by_cases hlt : i < n
  ·have hii : ((i : Nat) : Int) < ((n : Nat) : Int) := by omega
   go_wp2_with fail
   obtain ⟨wo, hwo⟩ : ∃ wo, wo = wr := ⟨_, rfl⟩
   subst hwo
   have HO0 := Lib.hid (show wo.ownsRow wo.heap.size 3 1 (.slice none 0 0) (fiL (f i) 0).length (((fiL (f i) 0).map fun k => ((k : Nat) : Int)).map (Value.int .i64)) from World.ownsRow_nil _ _ _ _)
   have HR0 := Lib.hid (Below.refl wo.heap.size wo)
   go_loopw [15, 16, 17, 34] (fun hv _ _ v wq => ∃ k : Nat, v = .int .i64 ((k : Nat) : Int) ∧ k ≤ nt ∧ wq.ownsRow wo.heap.size 3 1 hv (fiL (f i) k).length (((fiL (f i) k).map fun k => ((k : Nat) : Int)).map (Value.int .i64)) ∧ Below wo.heap.size wo wq) (fun _ _ _ v _ => nt - (intOf v).toNat)
   case atStart => exact ⟨0, rfl, Nat.zero_le _, HO0.out, HR0.out⟩
   case round =>
    obtain ⟨k, rfl, hkn, hO, hBq⟩ := hrel
    have HO := Lib.hid hO
    have HQ := Lib.hid hBq
    have hfl : (fiL (f i) k).length ≤ k := by
     have := List.length_filter_le (f i) (List.range k)
     rwa [List.length_range] at this
    have HNXT := Lib.hid (fiL_next (f i) k)
    obtain ⟨xs, hxs⟩ : ∃ xs, fiL (f i) k = xs := ⟨_, rfl⟩
    rw [hxs] at HO HNXT hfl hO
    have HXS := Lib.hid hxs
    obtain ⟨Ao, co, rfl, hco, hcm, -, -⟩ := own_slice hO
    clear hO hBq hxs
    by_cases hlk : k < nt
    ·have hki : ((k : Nat) : Int) < ((nt : Nat) : Int) := by omega
     have HBq0 := Lib.hid (HW0.out.trans (HQ.out.mono HW0.out.size))
     obtain ⟨y, hy⟩ : ∃ y, ts[k]? = some y := ⟨_, List.getElem?_eq_getElem (by rw [HX.out.1]; exact hlk)⟩
     obtain ⟨Tb, To, hAT, hcs⟩ := Rd.cell HRT.out (by omega)
     subst hAT
     have y0 := below_cell HQ.out (below_cell HW.out (hcs k hlk))
     rw [List.getElem?_map, hy] at y0
     have y0 : wr.cell? ⟨Tb, To + k, none⟩ = some (.int .i64 ((y : Nat) : Int)) := y0
     obtain ⟨hz1, hz2⟩ := HTS.out k y hy
     have hfe := HF.out i k
     rw [hy] at hfe
     have hfe : tvN t l (kidN l (s0 + y) 0) i = f i k := hfe
     obtain ⟨z, hz⟩ : ∃ z, s0 + y = z := ⟨_, rfl⟩
     rw [hz] at hz1 hz2 hfe
     have hsy : ((s0 : Nat) : Int) + ((y : Nat) : Int) = ((z : Nat) : Int) := by omega
     have hkc : Tree.kidc (kindN l z) = 1 := by rw [hz2]; rfl
     obtain ⟨Lb, Lo, nd, KK, m, cK, hA, hnc⟩ := HND.out wr HBq0.out z (by omega)
     subst hA
     have hkd := kind_of hnc.hk
     obtain rfl : m = 1 := by rw [hnc.arity, ← hkd]; exact hkc
     obtain ⟨kb, ko, rfl, y1, hkz⟩ := hnc.kids 0 (by decide)
     rw [Nat.add_zero] at y1
     have x4 := hnc.x4
     obtain ⟨_, -, -, -, -, h6, h7⟩ := node_one HML.out.1 (show z < l.length by rw [HML.out.2]; omega) hkc
     have hfk := kind_form HML.out.1 (show kidN l z 0 < l.length by rw [HML.out.2]; omega) (by rw [h6, h7, hz2]; rfl)
     obtain ⟨rb, y2, hrb⟩ := HT.out (kidN l z 0) (by omega) hfk
     have y2 := below_cell HBq0.out y2
     have y3 := below_cell HBq0.out (hrb i hlt)
     rw [hfe] at y3
     obtain ⟨kd, hkd2⟩ : ∃ q, kidN l z 0 = q := ⟨_, rfl⟩
     rw [hkd2] at y1 y2 hkz
     obtain ⟨p, hp⟩ : ∃ p, f i k = p := ⟨_, rfl⟩
     rw [hp] at y3
     have HP2 := Lib.hid hp
     have hzi : ((z : Nat) : Int) < ((nl : Nat) : Int) := by omega
     have hkdi : ((kd : Nat) : Int) < ((nl : Nat) : Int) := by omega
     clear hcs hy hz1 hz2 hfe hz hkc hnc hkd h6 h7 hfk hrb hkd2 hp hkz
     cases p
     ·have HXN := Lib.hid (show fiL (f i) (k + 1) = xs from by rw [HNXT.out, HP2.out, if_neg (by decide), List.append_nil])
      go_wp2_with fail
      go_roundw
      case rel => exact ⟨k + 1, by simp, by omega, by rw [HXN.out]; exact HO.out, HQ.out⟩
      case measure => (show nt - (k + 1) < nt - k; omega)
     ·have HXN := Lib.hid (show fiL (f i) (k + 1) = xs ++ [k] from by rw [HNXT.out, HP2.out, if_pos rfl])
      have hal := (Below.refl _ wr).alloc (Nat.le_refl _) (.cells #[.int .i64 ((k : Nat) : Int)] 3)
      have HO2 := Lib.hid (Mem.below_row HO.out hal)
      have HR2 := Lib.hid (Rd.lit (k := .i64) wr 3 (0, 0) [((k : Nat) : Int)] (fun z hz => by rw [List.mem_singleton.1 hz]; simp [Lit.wf, IntKind.min, IntKind.max, IntKind.signed, IntKind.bits]; omega))
      have hbs : wo.heap.size ≤ (wr.alloc (.cells #[.int .i64 ((k : Nat) : Int)] 3)).heap.size := by have := HQ.out.size; simp; omega
      go_wp2_with (at_builtin; refine wpList_append_ints rfl (.tmp 54) (.tmp 56) 29 rfl .i64 wo.heap.size 3 i0 8 Tryz.underlying29 hi hz0 hz1 hz2 _ _ _ rfl HO2.out _ 1 1 [((k : Nat) : Int)] rfl HR2.out (by omega) (by omega) hbs ?_; intro v' w9 hown9 hgr9)
      go_roundw
      case rel => exact ⟨k + 1, by simp, by omega, by rw [HXN.out, List.length_append, List.map_append]; exact hown9, (HQ.out.trans (hal.mono HQ.out.size)).grown hgr9 hbs (fun k hk => (HO2.out.lt k hk).1)⟩
      case measure => (show nt - (k + 1) < nt - k; omega)
    ·obtain rfl : k = nt := by omega
     have HRH := Lib.hid (show Rd .i64 wr Ao xs.length (xs.map fun k => ((k : Nat) : Int)) from Rd.own HO.out (fun z hz => by
      obtain ⟨q, hq, rfl⟩ := List.mem_map.1 hz
      rw [← HXS.out] at hq
      have := List.mem_range.1 (List.mem_filter.1 hq).1
      simp [Lit.wf, IntKind.min, IntKind.max, IntKind.signed, IntKind.bits]
      omega))
     obtain ⟨xn, hxn⟩ : ∃ q, xs.length = q := ⟨_, rfl⟩
     rw [hxn] at HRH hfl hco ⊢
     clear hxn
     go_wp2_with fail
     refine (BitsWalks.refOfO Ao xn co _ wr (by omega) HRH.out).mono ?_
     rintro e w8 ⟨v8, q8, zs8, rfl, hset, -, hown8, hb8⟩
     obtain ⟨K8, c8, rfl, -⟩ := own_slice hown8
     have hwoq : w.heap.size ≤ wr.heap.size := by have := HW0.out.size; have := HQ.out.size; omega
     have hB8 := HW0.out.trans (((HQ.out.trans (hb8.mono HQ.out.size))).mono HW0.out.size)
     have hV8 := (HV.out.below HQ.out).below hb8
     have hBq : BV < wr.heap.size := (World.ownsRow.lt (HV.out.below HQ.out).row BV rfl).2
     obtain ⟨u8, hu8⟩ : ∃ u, σ[i]? = some u := ⟨_, List.getElem?_eq_getElem (by have := hV8.row.1; omega)⟩
     have c8k := hV8.at hu8
     have f8k := own_fz hV8.row i
     have HV9 := Lib.hid (hV8.put hlt (BitsWalks.own_low hown8 hwoq) (fun e => by have := (hown8.lt BV e).1; omega) (hset.congr (fun q => by rw [← HXS.out]; exact fiL_of hnt1 q)))
     have HB9 := Lib.hid ((HW.out.trans ((HQ.out.trans (hb8.mono HQ.out.size)).mono HW.out.size)).setCell (p := ⟨BV, i, none⟩) (show w3.heap.size ≤ BV by rw [HBVe.out]; exact Nat.le_refl _) (.slice K8 q8 c8))
     clear hset hown8 hb8 hB8 hV8 hu8 hBq hwoq
     go_wp2_with fail
     go_roundw
     case rel => exact ⟨i + 1, _, _, by simp, by omega, HV9.out, HB9.out⟩
     case measure => (show n - (i + 1) < n - i; omega)
  ·obtain rfl : i = n := by omega
   go_wp2_with fail
   refine bodyPost_ret (v := .tuple #[.slice AP np cP, .slice (some ⟨BV, 0, none⟩) i i]) (by simp [results, Tryz.results61, go_sem]) rfl ?_
   refine ⟨AP, cP, some ⟨BV, 0, none⟩, vs, by rw [HX.out.2.1], HN3.out.below HW.out, by rw [HX.out.2.1]; exact HC1.out, fun _ => ⟨BV, 0, rfl, fun j hj => ?_⟩, fun p hp q => ?_, HW0.out⟩
   ·obtain ⟨K, q, c, h1, h2, h3, h4⟩ := HV.out.told j hj
    obtain ⟨A', c', e', h5, h6, -⟩ := own_slice h2
    injection e' with _ _ e3
    subst e3
    exact ⟨K, q, c, by rw [Nat.zero_add]; exact HV.out.at h1, RdW.RdW.own h2 h4.1, h5, h6⟩
   ·obtain ⟨K, q', c, h1, h2, h3, h4⟩ := HV.out.told p hp
    unfold psV BitsWalks.hasI
    rw [Int.toNat_natCast, decide_eq_true (Int.natCast_nonneg q), Bool.true_and, h4.2.2 q, HX.out.2.2.1, HX.out.1]
end Go.Proofs.YtdbgaccnejffpaaGreat.Sat

namespace Go.Proofs.YtdbgaccnejffpaaGreat
open Go
theorem tkSkips {P : Program} {md : Region.Mode} {ops : Array Oper} {Q : Exit → Act → World → Prop} {S : World → Prop} (is : List Nat) (fuel : Nat) {n : Nat} {listed : Array Bool} {a : Act} {w : World} (hS : S w)
  (h : wpAnyH P md ops Q S fuel (Skips.skipListed is listed) (Skips.skipAct ops is a) w)
  (hs : Region.noSelect ops = true := by kernel_rfl) (hQ : ∀ (d : Tmp) (v : Value) c a w, Q (.panic c) (a.put (some d) v) w → Q (.panic c) a w := by exact fun _ _ _ _ _ h => h)
  (hn : n = fuel + is.length := by kernel_rfl) (hk : Skips.skipsOk md ops is listed a = true := by kernel_rfl) : wpAnyH P md ops Q S n listed a w :=
 Skips.skips hs hQ hS is n fuel listed a hn hk h
end Go.Proofs.YtdbgaccnejffpaaGreat

namespace Go.Proofs.YtdbgaccnejffpaaGreat.Ival
open Go.RowKit
theorem refHas (lo hi : Int) (d : Nat) (w : World) (_hd : d < 18446744073709551616) :
  Calls Tryz.prog 63 #[span lo hi, .int .u64 d] w fun e w' => e = .returned (.bool (hasS lo hi d)) ∧ Below w.heap.size w w' := by
 have hm := fun W => refMay lo hi W
 unfold hasS
 rcases may_ways lo hi with h | ⟨h, h1, h2, h3⟩ | ⟨h, h1, h0, h2, h3, h4⟩
 ·rw [h] at hm ⊢
  have HM := Lib.hid hm
  clear hm h
  go_enter Tryz.func63, Tryz.ntmps63
  go_wp2_with (go_at_call 59; refine (HM.out _).mono ?_; rintro e w' ⟨rfl, hb⟩; have hc0 := box0 hb; have hc1 := box1 hb)
  go_ret
  exact ⟨rfl, ((Below.refl _ _).alloc (Nat.le_refl _) _).trans (hb.mono (by simp))⟩
 ·subst h1
  rw [h] at hm ⊢
  have HM := Lib.hid hm
  have e1 : IntKind.u64.wrap lo = lo := by rw [IntKind.wrap_u64]; omega
  have HL := Lib.hid h3
  clear hm h
  by_cases h4 : lo ≤ (d : Int)
  ·rw [show (true && decide (lo ≤ (d : Int) ∧ ((-1 : Int) = -1 ∨ (d : Int) ≤ -1))) = true by simp [h4]]
   go_enter Tryz.func63, Tryz.ntmps63
   go_wp2_with (go_at_call 59; refine (HM.out _).mono ?_; rintro e w' ⟨rfl, hb⟩; have hc0 := box0 hb; have hc1 := box1 hb)
   go_ret
   exact ⟨rfl, ((Below.refl _ _).alloc (Nat.le_refl _) _).trans (hb.mono (by simp))⟩
  ·rw [show (true && decide (lo ≤ (d : Int) ∧ ((-1 : Int) = -1 ∨ (d : Int) ≤ -1))) = false by simp [h4]]
   go_enter Tryz.func63, Tryz.ntmps63
   go_wp2_with (go_at_call 59; refine (HM.out _).mono ?_; rintro e w' ⟨rfl, hb⟩; have hc0 := box0 hb; have hc1 := box1 hb)
   go_ret
   exact ⟨rfl, ((Below.refl _ _).alloc (Nat.le_refl _) _).trans (hb.mono (by simp))⟩
 ·rw [h] at hm ⊢
  have HM := Lib.hid hm
  have e1 : IntKind.u64.wrap lo = lo := by rw [IntKind.wrap_u64]; omega
  have e2 : IntKind.u64.wrap hi = hi := by rw [IntKind.wrap_u64]; omega
  have HL := Lib.hid h0
  clear hm h h0
  by_cases h5 : lo ≤ (d : Int)
  ·by_cases h6 : (d : Int) ≤ hi
   ·rw [show (true && decide (lo ≤ (d : Int) ∧ (hi = -1 ∨ (d : Int) ≤ hi))) = true by simp [h5, h6]]
    go_enter Tryz.func63, Tryz.ntmps63
    go_wp2_with (go_at_call 59; refine (HM.out _).mono ?_; rintro e w' ⟨rfl, hb⟩; have hc0 := box0 hb; have hc1 := box1 hb)
    go_ret
    exact ⟨rfl, ((Below.refl _ _).alloc (Nat.le_refl _) _).trans (hb.mono (by simp))⟩
   ·rw [show (true && decide (lo ≤ (d : Int) ∧ (hi = -1 ∨ (d : Int) ≤ hi))) = false by have := HL.out; simp [h6, this]]
    have h7 : decide ((d : Int) ≤ hi) = false := by simp; omega
    go_enter Tryz.func63, Tryz.ntmps63
    go_wp2_with (go_at_call 59; refine (HM.out _).mono ?_; rintro e w' ⟨rfl, hb⟩; have hc0 := box0 hb; have hc1 := box1 hb)
    go_ret
    exact ⟨rfl, ((Below.refl _ _).alloc (Nat.le_refl _) _).trans (hb.mono (by simp))⟩
  ·rw [show (true && decide (lo ≤ (d : Int) ∧ (hi = -1 ∨ (d : Int) ≤ hi))) = false by simp [h5]]
   go_enter Tryz.func63, Tryz.ntmps63
   go_wp2_with (go_at_call 59; refine (HM.out _).mono ?_; rintro e w' ⟨rfl, hb⟩; have hc0 := box0 hb; have hc1 := box1 hb)
   go_ret
   exact ⟨rfl, ((Below.refl _ _).alloc (Nat.le_refl _) _).trans (hb.mono (by simp))⟩
end Go.Proofs.YtdbgaccnejffpaaGreat.Ival
