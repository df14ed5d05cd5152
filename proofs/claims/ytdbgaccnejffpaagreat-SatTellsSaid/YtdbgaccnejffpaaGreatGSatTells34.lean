/-
  The reference's truth of KBack and KFore (stage 15). By an AI agent. (Written by wip/tools/gentruth15b.py.)
-/
import Derived.Test.YtdbgaccnejffpaaGreatGSatTells1
import Derived.Test.YtdbgaccnejffpaaGreatGSatTells33
namespace Go.Proofs.YtdbgaccnejffpaaGreat.Sat
open Go.RowKit Go.Proofs.YtdbgaccnejffpaaGreat.Ints Go.Proofs.YtdbgaccnejffpaaGreat.Mem Go.Proofs.YtdbgaccnejffpaaGreat.Src Go.Proofs.YtdbgaccnejffpaaGreat.Paths Go.Proofs.YtdbgaccnejffpaaGreat.Late Go.Proofs.YtdbgaccnejffpaaGreat.Trace
def upJ (g : Nat → Bool) (i : Nat) (x : Bool) (p : Nat) : Bool := if p < i then g p else if p = i then x else false
theorem upJ_zero (g : Nat → Bool) (i p : Nat) : upTo i g p = upJ g i false p := by
 unfold upTo upJ
 by_cases h : p < i
 ·rw [if_pos h, decide_eq_true h]; rfl
 ·rw [if_neg h, decide_eq_false h, ite_self]; rfl
theorem upJ_next (g : Nat → Bool) (i p : Nat) : upJ g i (g i) p = upTo (i + 1) g p := by
 unfold upTo upJ
 by_cases h : p < i
 ·rw [if_pos h, decide_eq_true (by omega)]; rfl
 ·rw [if_neg h]
  by_cases e : p = i
  ·rw [if_pos e, e, decide_eq_true (by omega)]; rfl
  ·rw [if_neg e, decide_eq_false (by omega)]; rfl
theorem upJ_set {n i : Nat} (hi : i < n) (g : Nat → Bool) (x y : Bool) : (bl n (upJ g i x)).set i (.bool y) = bl n (upJ g i y) := by
 apply List.ext_getElem?
 intro a
 rw [List.getElem?_set, bl_len]
 by_cases ha : a < n
 ·rw [bl_at ha]
  by_cases e : i = a
  ·subst e
   rw [if_pos rfl, if_pos ha, bl_at ha]
   unfold upJ
   rw [if_neg (Nat.lt_irrefl _), if_pos rfl]
  ·rw [if_neg e, bl_at ha]
   show some (Value.bool (if a < i then g a else if a = i then x else false)) = some (Value.bool (if a < i then g a else if a = i then y else false))
   rw [if_neg (show ¬ a = i from fun x => e x.symm), if_neg (show ¬ a = i from fun x => e x.symm)]
 ·rw [List.getElem?_eq_none (l := bl n (upJ g i y)) (by rw [bl_len]; omega)]
  by_cases e : i = a
  ·rw [if_pos e, if_neg (by omega)]
  ·rw [if_neg e, List.getElem?_eq_none (by rw [bl_len]; omega)]
theorem below_grownS {b R : Nat} {w w1 w2 : World} (h : Below b w w1) (hg : w1.grownBy w2 (some R)) (hR : b ≤ R) (hb : b ≤ w1.heap.size) : Below b w w2 :=
 h.trans ⟨hg.os, hg.tape, hg.output, hg.size, fun k hk => hg.block k (by omega) (fun e => by injection e; omega)⟩
theorem back_ok {t : Tr} {l : List Tree.Nd} (hm : mayT t = true) (hl : Tree.mayL l = true) {k : Nat} {nd : Tree.Nd} (hk : l[k]? = some nd) (e : nd.kind = 16) {M : Nat → Nat → Bool} (hM : ∀ a b, a < t.events.length → b < t.events.length → (M a b = true ↔ sem (tmOf t) (foI l (kidN l k 0)) a b)) {p : Nat} (hp : p < t.events.length) :
  exU (fun q => decide (q ≤ p) && M q p) (fun q => Ival.hasS nd.lo nd.hi (apN (tmOf t) p q)) t.events.length = tvN t l k p := by
 obtain ⟨f1, f2, f3, f4⟩ := fo_node hk
 have hkl := (List.getElem?_eq_some_iff.1 hk).1
 symm
 apply tvN_eq
 rw [foI_one hl hkl (by rw [f1, e]; rfl), f1, f3, f4, e, sem_back hp, exU_iff]
 constructor
 ·rintro ⟨j, h1, h2, h3⟩
  have h2 : Ival.hasS nd.lo nd.hi ((tmOf t).tm p - (tmOf t).tm j) = true := h2
  exact ⟨j, by omega, by rw [decide_eq_true h1, Bool.true_and]; exact (hM j p (by omega) hp).2 h3, by rw [(ap_le hm h1 hp).2]; exact h2⟩
 ·rintro ⟨j, h0, h2, h3⟩
  rw [Bool.and_eq_true, decide_eq_true_eq] at h2
  rw [(ap_le hm h2.1 hp).2] at h3
  exact ⟨j, h2.1, h3, (hM j p h0 hp).1 h2.2⟩
theorem fore_ok {t : Tr} {l : List Tree.Nd} (hm : mayT t = true) (hl : Tree.mayL l = true) {k : Nat} {nd : Tree.Nd} (hk : l[k]? = some nd) (e : nd.kind = 17) {M : Nat → Nat → Bool} (hM : ∀ a b, a < t.events.length → b < t.events.length → (M a b = true ↔ sem (tmOf t) (foI l (kidN l k 0)) a b)) {p : Nat} (hp : p < t.events.length) :
  exU (fun q => decide (p ≤ q) && M p q) (fun q => Ival.hasS nd.lo nd.hi (apN (tmOf t) p q)) t.events.length = tvN t l k p := by
 obtain ⟨f1, f2, f3, f4⟩ := fo_node hk
 have hkl := (List.getElem?_eq_some_iff.1 hk).1
 symm
 apply tvN_eq
 rw [foI_one hl hkl (by rw [f1, e]; rfl), f1, f3, f4, e, sem_fore hp, exU_iff]
 constructor
 ·rintro ⟨j, h1, h0, h2, h3⟩
  have h0 : j < t.events.length := h0
  have h2 : Ival.hasS nd.lo nd.hi ((tmOf t).tm j - (tmOf t).tm p) = true := h2
  exact ⟨j, h0, by rw [decide_eq_true h1, Bool.true_and]; exact (hM p j hp h0).2 h3, by rw [(ap_le hm h1 h0).1]; exact h2⟩
 ·rintro ⟨j, h0, h2, h3⟩
  rw [Bool.and_eq_true, decide_eq_true_eq] at h2
  rw [(ap_le hm h2.1 h0).1] at h3
  exact ⟨j, h2.1, h0, h3, (hM p j hp h0).1 h2.2⟩
set_option maxHeartbeats 16000000 in
set_option maxRecDepth 100000 in
theorem truth_back (NA : Option Addr) (nn nc : Nat) (EA : Option Addr) (n ec : Nat) (t : Tr) (A : Option Addr) (nl cl : Nat) (l : List Tree.Nd) (B at_ : Nat) (w : World) (h : TrOk Any w NA nn nc EA n ec t) (hmt : mayT t = true) (hN : Tree.Nodes Tree.Any w A l) (hl : l.length = nl) (hml : Tree.mayL l = true) (hcl : nl ≤ cl) (hl1 : nl ≤ 1000) (hat : at_ < nl) (hkd : kindN l at_ = 16) (hT : TvR w B at_ n t l) (hn : n ≤ 64) :
  Calls Tryz.prog 30 #[.agg #[.slice NA nn nc, .slice EA n ec], .slice A nl cl, .int .i64 ((at_ : Nat) : Int), .slice (some ⟨B, 0, none⟩) nl nl, .int .i64 ((n : Nat) : Int)] w (GotB w n (tvN t l at_)) := by
 have q63 : maxLen = 9223372036854775807 := rfl
 obtain ⟨i1, hi1, hy0, hy1, hy2⟩ := info_parts infoBl
 have b2 : i1.bytes * n ≤ 281474976710656 := by rw [hy2]; omega
 have b3 : n ≤ maxLen := by omega
 obtain ⟨b, off, nd, K, m, cK, hA, hnc⟩ := node_cells hN hml (show at_ < l.length by omega)
 subst hA
 have hkk := kind_of hnc.hk
 rw [hkd] at hkk
 have hreg := kid_reg1 hml (show at_ < l.length by omega) (.inr (.inl hkd))
 have hrt := kidN_one hml (show at_ < l.length by omega) (show Tree.kidc (kindN l at_) = 1 by rw [hkd]; rfl)
 have hen := h.elen
 have HOK := Lib.hid (fun (M : Nat → Nat → Bool) hM p (hp : p < n) => back_ok hmt hml hnc.hk hkk.symm (M := M) hM (show p < t.events.length by omega))
 rw [hen] at HOK
 obtain ⟨root, hroot⟩ : ∃ q, kidN l at_ 0 = q := ⟨_, rfl⟩
 rw [hroot] at hreg hrt HOK
 have hkids := hnc.kids
 have har : m = 1 := by rw [hnc.arity, ← hkk]; rfl
 subst har
 obtain ⟨kb, ko, rfl, y0, -⟩ := hkids 0 (by decide)
 rw [Nat.add_zero, hroot] at y0
 have c0 := hnc.x0
 have c1 := hnc.x1
 have c2 := hnc.x2
 have c3 := hnc.x3
 have c4 := hnc.x4
 rw [← hkk] at c0
 have HVS := Lib.hid (fun V (hb : Below w.heap.size w V) => refVals (some ⟨b, off, none⟩) nl cl l B at_ root n t V (hN.below hb) hl hml hcl hl1 (by omega) hreg hrt (hT.below hb) hn)
 have HPW := Lib.hid (fun vs => part_way hml (tmOf t) vs (show root < l.length by omega) hreg)
 obtain ⟨P, hP⟩ : ∃ P, Tree.partL l (root : Int) = P := ⟨_, rfl⟩
 rw [hP] at HVS HPW
 have HL := Lib.hid (And.intro hl hen)
 have hai : ((at_ : Nat) : Int) < ((nl : Nat) : Int) := by omega
 obtain ⟨lo, hlo⟩ : ∃ x, nd.lo = x := ⟨_, rfl⟩
 obtain ⟨hi, hhi⟩ : ∃ x, nd.hi = x := ⟨_, rfl⟩
 rw [hlo] at c2
 rw [hhi] at c3
 rw [hlo, hhi] at HOK
 obtain ⟨W1, h1⟩ : ∃ W1, w.alloc (.cells #[.slice NA nn nc, .slice EA n ec] 25) = W1 := ⟨_, rfl⟩
 obtain ⟨W2, h2⟩ : ∃ W2, W1.alloc (.cells #[.int .i64 16, .string nd.name, .int .i64 lo, .int .i64 hi, .slice (some ⟨kb, ko, none⟩) 1 cK] 47) = W2 := ⟨_, rfl⟩
 obtain ⟨hb, s1, d, e⟩ := two_boxes h1 h2
 have hb1 : Below w.heap.size w W1 := by rw [← h1]; exact (Below.refl _ _).alloc (Nat.le_refl _) _
 have c0 := below_cell hb1 c0
 have c1 := below_cell hb1 c1
 have c2 := below_cell hb1 c2
 have c3 := below_cell hb1 c3
 have c4 := below_cell hb1 c4
 have y0 := below_cell hb y0
 have d0 := d 0 _ rfl
 have d1 := d 1 _ rfl
 have e0 := e 0 _ rfl
 have e2 := e 2 _ rfl
 have e3 := e 3 _ rfl
 have e4 := e 4 _ rfl
 have HB := Lib.hid hb
 have HH := Lib.hid (h.below hb)
 have HDE := Lib.hid (And.intro d0 (And.intro d1 (And.intro e0 (And.intro e2 e3))))
 have HHI := Lib.hid hi1
 have HSW := Lib.hid (show w.heap.size + 1 < W2.heap.size from World.block_lt_of_cell? _ _ e0)
 have hn64 : ((n : Nat) : Int) ≤ 64 := by omega
 clear h hmt hN hl hml hT hnc hkd hkk hen hb hb1 d e hkids hroot hreg hrt hP hlo hhi
 go_enter Tryz.func30, Tryz.ntmps30
 go_upto_region 2 with fail
 clear c0 c1 c2 c3 c4
 go_wp2_with (at_make; refine wpList_make_full _ rfl (.tmp 25) (.tmp 25) 32 rfl w.heap.size 4 i1 (.bool false) 1 Tryz.underlying32 HHI.out hy0 hy1 .i64 .i64 _ _ n rfl rfl rfl rfl b2 b3 HB.out.size ?_; intro w3 hmade hgr3; rw [made_bools] at hmade; have hg3 : Below W2.heap.size W2 w3 := ⟨hgr3.os, hgr3.tape, hgr3.output, hgr3.size, fun k hk => hgr3.block k hk (by simp)⟩; have f0 := below_cell hg3 d0; have f1 := below_cell hg3 d1; have g0 := below_cell hg3 e0; have g4 := below_cell hg3 e4; have y0 := below_cell hg3 y0; obtain ⟨R, hR⟩ : ∃ R, W2.heap.size = R := ⟨_, rfl⟩; have HR := Lib.hid hR; have HO := Lib.hid (show OB w3 w.heap.size R n (upTo 0 (tvN t l at_)) from by unfold OB; rw [bl_zero, ← hR]; exact hmade); have HG := Lib.hid hg3; rw [hR]; clear hmade hgr3 hg3 hR)
 refine (HVS.out _ (HB.out.trans (HG.out.mono HB.out.size))).mono ?_
 rintro e w5 ⟨AP, cP, V, vs, rfl, hNP, hcP, hRV, hps, hb5⟩
 obtain ⟨p1, p2, -, p4⟩ := HPW.out vs
 have HTB := Lib.hid (show ∀ a b, a < n → b < n → (tableR P vs n a b = true ↔ sem (tmOf t) (foI l root) a b) from fun a b ha hb => by
  have h9 : (tmOf t).n = n := HL.out.2
  have h8 := p4 (fun q y hy p hp => by
   have hq : q < (placesR P 19).length := (List.getElem?_eq_some_iff.1 hy).1
   have h7 := hps p (by omega) q
   rw [decide_eq_true hq, Bool.true_and] at h7
   refine h7.trans ?_
   show tvN t l (kidN l (Tree.startL l root + ((placesR P 19)[q]?).getD 0) 0) p = true ↔ _
   rw [hy]
   exact tvN_iff _ _ _ _) (a := a) (b := b) (by omega) (by omega)
  rwa [h9] at h8)
 obtain ⟨np, hnp⟩ : ∃ q, P.length = q := ⟨_, rfl⟩
 rw [hnp] at p2 hcP ⊢
 have HO5 := Lib.hid (HO.out.below hb5)
 have HG5 := Lib.hid (HG.out.trans (hb5.mono HG.out.size))
 have HRC := Lib.hid (refReach AP V np cP n n P vs w5 hnp hcP.1 (by have := HL.out.1; omega) hNP hRV (by omega))
 rw [gotR_yes p1] at HRC
 clear hNP hcP hRV hps hb5 p1 p4 hnp f0 f1 g0 g4 y0
 go_wp2_with fail
 refine HRC.out.mono ?_
 rintro e w6 ⟨BT, RT, rfl, hTab, hb6⟩
 obtain ⟨M, hM⟩ : ∃ M, tableR P vs n = M := ⟨_, rfl⟩
 rw [hM] at hTab HTB
 obtain ⟨g, hg⟩ : ∃ g : Nat → Bool, (fun p => exU (fun q => decide (q ≤ p) && M q p) (fun q => Ival.hasS lo hi (apN (tmOf t) p q)) n) = g := ⟨_, rfl⟩
 have HGG := Lib.hid (show ∀ p, p < n → g p = tvN t l at_ p from fun p hp => by rw [← hg]; exact HOK.out M HTB.out p hp)
 have HGD := Lib.hid (fun p => congrFun hg p)
 have HO6 := Lib.hid (show OB w6 w.heap.size R n (upTo 0 g) from (HO5.out.below hb6).congr fun j _ => rfl)
 have HG6 := Lib.hid (HG5.out.trans (hb6.mono HG5.out.size))
 have HTAB := Lib.hid hTab
 have HR5 := Lib.hid (show R < w5.heap.size from HO5.out.lt.2)
 have HRF := Lib.hid (grown_any (o := R) (Below.refl w6.heap.size w6))
 clear hTab hb6 hM hg
 go_wp2_with fail
 go_loopw [16, 17, 50] (fun _ _ v wr => ∃ i : Nat, v = .int .i64 ((i : Nat) : Int) ∧ i ≤ n ∧ OB wr w.heap.size R n (upTo i g) ∧ w6.grownBy wr (some R)) (fun _ _ v _ => n - (intOf v).toNat)
 case atStart => exact ⟨0, rfl, Nat.zero_le _, HO6.out, HRF.out⟩
 case round =>
  obtain ⟨i, rfl, hin, hO, hB⟩ := hrel
  have HOi := Lib.hid hO
  have HBi := Lib.hid hB
  by_cases hlt : i < n
  ·have hii : ((i : Nat) : Int) < ((n : Nat) : Int) := by omega
   have HOJ := Lib.hid (hO.congr (g := upJ g i false) fun p _ => upJ_zero g i p)
   clear hO hB
   go_wp2_with fail
   obtain ⟨wo, hwo⟩ : ∃ wo, wo = wr := ⟨_, rfl⟩
   subst hwo
   obtain ⟨ht, hht⟩ : ∃ f, (fun q => Ival.hasS lo hi (apN (tmOf t) i q)) = f := ⟨_, rfl⟩
   obtain ⟨ok, hok⟩ : ∃ f : Nat → Bool, (fun q => decide (q ≤ i) && M q i) = f := ⟨_, rfl⟩
   have HHT := Lib.hid (fun q => congrFun hht q)
   have HOKE := Lib.hid (fun q => congrFun hok q)
   have HGI := Lib.hid (show exU ok ht n = g i from by rw [← hht, ← hok]; exact HGD.out i)
   clear hht hok
   go_loopw [17, 54] (fun _ v wr => ∃ j : Nat, v = .int .i64 ((j : Nat) : Int) ∧ j ≤ n ∧ OB wr w.heap.size R n (upJ g i (exU ok ht j)) ∧ w6.grownBy wr (some R)) (fun _ v _ => n - (intOf v).toNat)
   case atStart => exact ⟨0, rfl, Nat.zero_le _, HOJ.out, HBi.out⟩
   case round =>
    obtain ⟨j, rfl, hjn, hOj, hBj⟩ := hrel
    have HOj := Lib.hid hOj
    have HBj := Lib.hid hBj
    obtain ⟨cur, hcur⟩ : ∃ x, exU ok ht j = x := ⟨_, rfl⟩
    have HCU := Lib.hid hcur
    by_cases hlj : j < n
    ·have hji : ((j : Nat) : Int) < ((n : Nat) : Int) := by omega
     have hBW := below_grownS HG6.out hBj (by rw [HR.out]; exact Nat.le_refl _) HG6.out.size
     have HBW := Lib.hid hBW
     have f0 := below_cell hBW HDE.out.1
     have f1 := below_cell hBW HDE.out.2.1
     have g0 := below_cell hBW HDE.out.2.2.1
     have g2 := below_cell hBW HDE.out.2.2.2.1
     have g3 := below_cell hBW HDE.out.2.2.2.2
     have tb0 := (HTAB.out.out.lt BT rfl).1
     have tr0 := ((HTAB.out.row j (by omega)).lt (RT j) rfl).1
     have u1 := hBj.cell (HTAB.out.outer (i := j) (by omega)) (fun e => by have h9 : some BT = some R := e; injection h9 with h9; have := HR5.out; omega)
     have u2 := hBj.cell (HTAB.out.inner (i := j) (j := i) (by omega) (by omega)) (fun e => by have h9 : some (RT j) = some R := e; injection h9 with h9; have := HR5.out; omega)
     have cR := hOj.rb i hlt
     rw [show upJ g i (exU ok ht j) i = cur from by unfold upJ; rw [if_neg (Nat.lt_irrefl _), if_pos rfl]; exact hcur] at cR
     have fR := own_fz hOj i
     have HOKJ := Lib.hid (HOKE.out j)
     obtain ⟨mv, hmv⟩ : ∃ x, M j i = x := ⟨_, rfl⟩
     have HMV := Lib.hid hmv
     rw [hmv] at u2
     have HCR := Lib.hid (And.intro cR fR)
     clear hOj hBj hBW hcur hmv tb0 tr0 cR fR
     by_cases hc : j ≤ i
     ·have hci : ((j : Nat) : Int) ≤ ((i : Nat) : Int) := by omega
      have HOF2 := Lib.hid (show ok j = mv from by rw [← HOKJ.out, ← HMV.out]; show (decide (j ≤ i) && M j i) = _; rw [decide_eq_true hc, Bool.true_and])
      clear hc
      cases mv
      ·have HOF := Lib.hid HOF2.out
       clear f0 f1 g2 g3
       go_wp2_with fail
       go_roundw
       case rel => exact ⟨j + 1, by simp, by omega, by have h1 : exU ok ht (j + 1) = exU ok ht j := by { show (exU ok ht j || (ok j && ht j)) = _; rw [HOF.out]; simp }; rw [h1]; exact HOj.out, HBj.out⟩
       case measure => (show n - (j + 1) < n - j; omega)
      ·obtain ⟨z, hz⟩ : ∃ z, Ival.hasS lo hi (apN (tmOf t) i j) = z := ⟨_, rfl⟩
       have HZ := Lib.hid (show ht j = z from by rw [← HHT.out j]; exact hz)
       have HZ2 := Lib.hid hz
       clear hz
       cases cur
       ·go_wp2_with fail
        refine Late.drew [16] (S := fun V => (V.cell? ⟨R, i, none⟩ = some (.bool false) ∧ V.cell? ⟨w.heap.size, 0, none⟩ = some (.slice NA nn nc) ∧ V.cell? ⟨w.heap.size, 1, none⟩ = some (.slice EA n ec) ∧ V.cell? ⟨w.heap.size + 1, 2, none⟩ = some (.int .i64 lo) ∧ V.cell? ⟨w.heap.size + 1, 3, none⟩ = some (.int .i64 hi)) ∧ Below wr.heap.size wr V) (by kernel_rfl) ⟨⟨HCR.out.1, f0, f1, g2, g3⟩, (Below.refl _ _).drew⟩ (fun hHeld => ?_)
        refine ltOp 0 hHeld ?_
        refine ltOp 1 hHeld ?_
        refine ltOp 2 hHeld ?_
        refine ltOp 3 hHeld ?_
        refine ltOp 4 hHeld ?_
        refine ltOp 5 hHeld ?_
        refine ltOp 6 hHeld ?_
        refine ltOp 7 hHeld ?_
        refine ltOp 8 hHeld ?_
        refine ltOp 9 hHeld ?_
        refine ltOp 10 hHeld ?_
        refine ltOp 11 hHeld ?_
        refine ltCall 12 (fun Kt hKt => ?_)
        go_simp
        (go_at_call 64; refine (refApart (HH.out.below (HBW.out.trans (hHeld.2.mono HBW.out.size))) hlt hlj).mono ?_; rintro e w7 ⟨rfl, hb7⟩; have hB7 := hHeld.2.trans (hb7.mono hHeld.2.size))
        refine hKt.out _ _ ?_ (fun hT => ?_)
        ·(exact ⟨⟨below_cell hb7 hHeld.1.1, below_cell hb7 hHeld.1.2.1, below_cell hb7 hHeld.1.2.2.1, below_cell hb7 hHeld.1.2.2.2.1, below_cell hb7 hHeld.1.2.2.2.2⟩, hB7⟩)
        clear hKt Kt hHeld
        have hHeld := hT
        clear hT
        try simp only [Act.put, tkA, tkB, tkC]
        refine ltCall 13 (fun Kt hKt => ?_)
        go_simp
        (go_at_call 63; refine (Ival.refHas lo hi (apN (tmOf t) i j) _ (ap_lt HH.out hlt hlj)).mono ?_; rintro e w8 ⟨rfl, hb8⟩; have hB8 := hHeld.2.trans (hb8.mono hHeld.2.size); have hO8 := HOj.out.below hB8; have cR := below_cell hB8 HCR.out.1; have fR := own_fz hO8 i; rw [HZ2.out])
        refine hKt.out _ _ ?_ (fun hT => ?_)
        ·(exact ⟨⟨below_cell hb8 hHeld.1.1, below_cell hb8 hHeld.1.2.1, below_cell hb8 hHeld.1.2.2.1, below_cell hb8 hHeld.1.2.2.2.1, below_cell hb8 hHeld.1.2.2.2.2⟩, hB8⟩)
        clear hKt Kt hHeld
        have hHeld := hT
        clear hT
        try simp only [Act.put, tkA, tkB, tkC]
        refine ltOp 14 hHeld ?_
        refine ltOp 15 hHeld ?_
        refine ltLast 16 (fun Kt hKt => ?_)
        go_simp
        refine hKt.out _ _ trivial (fun hT => ?_)
        clear hKt Kt hHeld
        have hHeld := hT
        clear hT
        try simp only [Act.put, tkA, tkB, tkC]
        refine wpAnyH_done (by kernel_rfl) ?_ _
        have HON := Lib.hid (show OB (w8.setCell ⟨R, i, none⟩ (.bool z)) w.heap.size R n (upJ g i (exU ok ht (j + 1))) from by
         have h1 := own_put (k := i) hO8 (.bool z)
         rw [upJ_set hlt g _ z] at h1
         have h2 : exU ok ht (j + 1) = z := by { show (exU ok ht j || (ok j && ht j)) = _; rw [HCU.out, HOF2.out, HZ.out]; simp }
         rw [h2]; exact h1)
        have HBN := Lib.hid (grown_tr (grown_tr HBj.out (grown_any (o := R) hB8)) (grown_cell w8 ⟨R, i, none⟩ (.bool z)))
        clear hHeld hO8 cR fR hb7 hb8 hB7 hB8
        go_wp2_with fail
        go_roundw
        case rel => exact ⟨j + 1, by simp, by omega, HON.out, HBN.out⟩
        case measure => (show n - (j + 1) < n - j; omega)
       ·have hB8 : Below wr.heap.size wr wr.drew := (Below.refl _ _).drew
        have hO8 := HOj.out.below hB8
        have cR := below_cell hB8 HCR.out.1
        have fR := own_fz hO8 i
        go_wp2_with fail
        refine Late.drew [16] (S := fun V => (V.cell? ⟨R, i, none⟩ = some (.bool true) ∧ V.cell? ⟨w.heap.size, 0, none⟩ = some (.slice NA nn nc) ∧ V.cell? ⟨w.heap.size, 1, none⟩ = some (.slice EA n ec) ∧ V.cell? ⟨w.heap.size + 1, 2, none⟩ = some (.int .i64 lo) ∧ V.cell? ⟨w.heap.size + 1, 3, none⟩ = some (.int .i64 hi)) ∧ Below wr.heap.size wr V) (by kernel_rfl) ⟨⟨HCR.out.1, f0, f1, g2, g3⟩, (Below.refl _ _).drew⟩ (fun hHeld => ?_)
        refine ltOp 0 hHeld ?_
        refine ltOp 1 hHeld ?_
        refine ltOp 2 hHeld ?_
        refine ltOp 3 hHeld ?_
        refine ltOp 4 hHeld ?_
        refine ltOp 5 hHeld ?_
        refine ltOp 6 hHeld ?_
        refine Late.take (i := 7) (oi := ?tko25) (v := undef) ?tkh25 (by kernel_rfl) (by kernel_rfl) (by kernel_rfl) (by kernel_rfl) ?tkq25 ?tky25 hHeld ?tkr25
        case tkh25 => (simp only [List.getElem?_toArray, List.getElem?_cons_succ, List.getElem?_cons_zero]; rfl)
        case tkq25 => exact fun _ _ _ h => h
        case tky25 => exact Or.inr ⟨by rfl, rfl⟩
        try simp only [Act.put, List.setIfInBounds_toArray, List.set_cons_zero, List.set_cons_succ]
        refine Late.take (i := 8) (oi := ?tko26) (v := undef) ?tkh26 (by kernel_rfl) (by kernel_rfl) (by kernel_rfl) (by kernel_rfl) ?tkq26 ?tky26 hHeld ?tkr26
        case tkh26 => (simp only [List.getElem?_toArray, List.getElem?_cons_succ, List.getElem?_cons_zero]; rfl)
        case tkq26 => exact fun _ _ _ h => h
        case tky26 => exact Or.inr ⟨by rfl, rfl⟩
        try simp only [Act.put, List.setIfInBounds_toArray, List.set_cons_zero, List.set_cons_succ]
        refine Late.take (i := 9) (oi := ?tko27) (v := undef) ?tkh27 (by kernel_rfl) (by kernel_rfl) (by kernel_rfl) (by kernel_rfl) ?tkq27 ?tky27 hHeld ?tkr27
        case tkh27 => (simp only [List.getElem?_toArray, List.getElem?_cons_succ, List.getElem?_cons_zero]; rfl)
        case tkq27 => exact fun _ _ _ h => h
        case tky27 => exact Or.inr ⟨by rfl, rfl⟩
        try simp only [Act.put, List.setIfInBounds_toArray, List.set_cons_zero, List.set_cons_succ]
        refine Late.take (i := 10) (oi := ?tko28) (v := undef) ?tkh28 (by kernel_rfl) (by kernel_rfl) (by kernel_rfl) (by kernel_rfl) ?tkq28 ?tky28 hHeld ?tkr28
        case tkh28 => (simp only [List.getElem?_toArray, List.getElem?_cons_succ, List.getElem?_cons_zero]; rfl)
        case tkq28 => exact fun _ _ _ h => h
        case tky28 => exact Or.inr ⟨by rfl, rfl⟩
        try simp only [Act.put, List.setIfInBounds_toArray, List.set_cons_zero, List.set_cons_succ]
        refine Late.take (i := 11) (oi := ?tko29) (v := undef) ?tkh29 (by kernel_rfl) (by kernel_rfl) (by kernel_rfl) (by kernel_rfl) ?tkq29 ?tky29 hHeld ?tkr29
        case tkh29 => (simp only [List.getElem?_toArray, List.getElem?_cons_succ, List.getElem?_cons_zero]; rfl)
        case tkq29 => exact fun _ _ _ h => h
        case tky29 => exact Or.inr ⟨by rfl, rfl⟩
        try simp only [Act.put, List.setIfInBounds_toArray, List.set_cons_zero, List.set_cons_succ]
        refine Late.take (i := 12) (oi := ?tko30) (v := undef) ?tkh30 (by kernel_rfl) (by kernel_rfl) (by kernel_rfl) (by kernel_rfl) ?tkq30 ?tky30 hHeld ?tkr30
        case tkh30 => (simp only [List.getElem?_toArray, List.getElem?_cons_succ, List.getElem?_cons_zero]; rfl)
        case tkq30 => exact fun _ _ _ h => h
        case tky30 => exact Or.inr ⟨by rfl, rfl⟩
        try simp only [Act.put, List.setIfInBounds_toArray, List.set_cons_zero, List.set_cons_succ]
        refine Late.take (i := 13) (oi := ?tko31) (v := undef) ?tkh31 (by kernel_rfl) (by kernel_rfl) (by kernel_rfl) (by kernel_rfl) ?tkq31 ?tky31 hHeld ?tkr31
        case tkh31 => (simp only [List.getElem?_toArray, List.getElem?_cons_succ, List.getElem?_cons_zero]; rfl)
        case tkq31 => exact fun _ _ _ h => h
        case tky31 => exact Or.inr ⟨by rfl, rfl⟩
        try simp only [Act.put, List.setIfInBounds_toArray, List.set_cons_zero, List.set_cons_succ]
        refine ltOp 14 hHeld ?_
        refine ltOp 15 hHeld ?_
        refine ltLast 16 (fun Kt hKt => ?_)
        go_simp
        refine hKt.out _ _ trivial (fun hT => ?_)
        clear hKt Kt hHeld
        have hHeld := hT
        clear hT
        try simp only [Act.put, tkA, tkB, tkC]
        refine wpAnyH_done (by kernel_rfl) ?_ _
        have HON := Lib.hid (show OB (wr.drew.setCell ⟨R, i, none⟩ (.bool true)) w.heap.size R n (upJ g i (exU ok ht (j + 1))) from by
         have h1 := own_put (k := i) hO8 (.bool true)
         rw [upJ_set hlt g _ true] at h1
         have h2 : exU ok ht (j + 1) = true := by { show (exU ok ht j || (ok j && ht j)) = _; rw [HCU.out, HOF2.out, HZ.out]; simp }
         rw [h2]; exact h1)
        have HBN := Lib.hid (grown_tr (grown_tr HBj.out (grown_any (o := R) hB8)) (grown_cell wr.drew ⟨R, i, none⟩ (.bool true)))
        clear hHeld hO8 cR fR hB8
        go_wp2_with fail
        go_roundw
        case rel => exact ⟨j + 1, by simp, by omega, HON.out, HBN.out⟩
        case measure => (show n - (j + 1) < n - j; omega)
     ·have hci : ¬ (((j : Nat) : Int) ≤ ((i : Nat) : Int)) := by omega
      have HOF := Lib.hid (show ok j = false from by rw [← HOKJ.out]; show (decide (j ≤ i) && M j i) = _; rw [decide_eq_false hc, Bool.false_and])
      clear hc f0 f1 g2 g3
      go_wp2_with fail
      go_roundw
      case rel => exact ⟨j + 1, by simp, by omega, by have h1 : exU ok ht (j + 1) = exU ok ht j := by { show (exU ok ht j || (ok j && ht j)) = _; rw [HOF.out]; simp }; rw [h1]; exact HOj.out, HBj.out⟩
      case measure => (show n - (j + 1) < n - j; omega)
    ·obtain rfl : j = n := by omega
     have HON := Lib.hid (hOj.congr (g := upTo (i + 1) g) fun p _ => by rw [HGI.out]; exact upJ_next g i p)
     clear hOj hBj hcur
     go_wp2_with fail
     go_roundw
     case rel => exact ⟨i + 1, by simp, by omega, HON.out, HBj.out⟩
     case measure => (show j - (i + 1) < j - i; omega)
  ·obtain rfl : i = n := by omega
   clear hO hB
   go_wp2_with fail
   go_ret
   have h8 := below_grownS HG6.out HBi.out (by rw [HR.out]; exact Nat.le_refl _) HG6.out.size
   refine ⟨R, rfl, ?_, HB.out.trans (h8.mono HB.out.size)⟩
   have h1 := HOi.out
   unfold OB at h1
   rw [bl_full] at h1
   exact OB.congr h1 HGG.out
set_option maxHeartbeats 16000000 in
set_option maxRecDepth 100000 in
theorem truth_fore (NA : Option Addr) (nn nc : Nat) (EA : Option Addr) (n ec : Nat) (t : Tr) (A : Option Addr) (nl cl : Nat) (l : List Tree.Nd) (B at_ : Nat) (w : World) (h : TrOk Any w NA nn nc EA n ec t) (hmt : mayT t = true) (hN : Tree.Nodes Tree.Any w A l) (hl : l.length = nl) (hml : Tree.mayL l = true) (hcl : nl ≤ cl) (hl1 : nl ≤ 1000) (hat : at_ < nl) (hkd : kindN l at_ = 17) (hT : TvR w B at_ n t l) (hn : n ≤ 64) :
  Calls Tryz.prog 30 #[.agg #[.slice NA nn nc, .slice EA n ec], .slice A nl cl, .int .i64 ((at_ : Nat) : Int), .slice (some ⟨B, 0, none⟩) nl nl, .int .i64 ((n : Nat) : Int)] w (GotB w n (tvN t l at_)) := by
 have q63 : maxLen = 9223372036854775807 := rfl
 obtain ⟨i1, hi1, hy0, hy1, hy2⟩ := info_parts infoBl
 have b2 : i1.bytes * n ≤ 281474976710656 := by rw [hy2]; omega
 have b3 : n ≤ maxLen := by omega
 obtain ⟨b, off, nd, K, m, cK, hA, hnc⟩ := node_cells hN hml (show at_ < l.length by omega)
 subst hA
 have hkk := kind_of hnc.hk
 rw [hkd] at hkk
 have hreg := kid_reg1 hml (show at_ < l.length by omega) (.inr (.inr hkd))
 have hrt := kidN_one hml (show at_ < l.length by omega) (show Tree.kidc (kindN l at_) = 1 by rw [hkd]; rfl)
 have hen := h.elen
 have HOK := Lib.hid (fun (M : Nat → Nat → Bool) hM p (hp : p < n) => fore_ok hmt hml hnc.hk hkk.symm (M := M) hM (show p < t.events.length by omega))
 rw [hen] at HOK
 obtain ⟨root, hroot⟩ : ∃ q, kidN l at_ 0 = q := ⟨_, rfl⟩
 rw [hroot] at hreg hrt HOK
 have hkids := hnc.kids
 have har : m = 1 := by rw [hnc.arity, ← hkk]; rfl
 subst har
 obtain ⟨kb, ko, rfl, y0, -⟩ := hkids 0 (by decide)
 rw [Nat.add_zero, hroot] at y0
 have c0 := hnc.x0
 have c1 := hnc.x1
 have c2 := hnc.x2
 have c3 := hnc.x3
 have c4 := hnc.x4
 rw [← hkk] at c0
 have HVS := Lib.hid (fun V (hb : Below w.heap.size w V) => refVals (some ⟨b, off, none⟩) nl cl l B at_ root n t V (hN.below hb) hl hml hcl hl1 (by omega) hreg hrt (hT.below hb) hn)
 have HPW := Lib.hid (fun vs => part_way hml (tmOf t) vs (show root < l.length by omega) hreg)
 obtain ⟨P, hP⟩ : ∃ P, Tree.partL l (root : Int) = P := ⟨_, rfl⟩
 rw [hP] at HVS HPW
 have HL := Lib.hid (And.intro hl hen)
 have hai : ((at_ : Nat) : Int) < ((nl : Nat) : Int) := by omega
 obtain ⟨lo, hlo⟩ : ∃ x, nd.lo = x := ⟨_, rfl⟩
 obtain ⟨hi, hhi⟩ : ∃ x, nd.hi = x := ⟨_, rfl⟩
 rw [hlo] at c2
 rw [hhi] at c3
 rw [hlo, hhi] at HOK
 obtain ⟨W1, h1⟩ : ∃ W1, w.alloc (.cells #[.slice NA nn nc, .slice EA n ec] 25) = W1 := ⟨_, rfl⟩
 obtain ⟨W2, h2⟩ : ∃ W2, W1.alloc (.cells #[.int .i64 17, .string nd.name, .int .i64 lo, .int .i64 hi, .slice (some ⟨kb, ko, none⟩) 1 cK] 47) = W2 := ⟨_, rfl⟩
 obtain ⟨hb, s1, d, e⟩ := two_boxes h1 h2
 have hb1 : Below w.heap.size w W1 := by rw [← h1]; exact (Below.refl _ _).alloc (Nat.le_refl _) _
 have c0 := below_cell hb1 c0
 have c1 := below_cell hb1 c1
 have c2 := below_cell hb1 c2
 have c3 := below_cell hb1 c3
 have c4 := below_cell hb1 c4
 have y0 := below_cell hb y0
 have d0 := d 0 _ rfl
 have d1 := d 1 _ rfl
 have e0 := e 0 _ rfl
 have e2 := e 2 _ rfl
 have e3 := e 3 _ rfl
 have e4 := e 4 _ rfl
 have HB := Lib.hid hb
 have HH := Lib.hid (h.below hb)
 have HDE := Lib.hid (And.intro d0 (And.intro d1 (And.intro e0 (And.intro e2 e3))))
 have HHI := Lib.hid hi1
 have HSW := Lib.hid (show w.heap.size + 1 < W2.heap.size from World.block_lt_of_cell? _ _ e0)
 have hn64 : ((n : Nat) : Int) ≤ 64 := by omega
 clear h hmt hN hl hml hT hnc hkd hkk hen hb hb1 d e hkids hroot hreg hrt hP hlo hhi
 go_enter Tryz.func30, Tryz.ntmps30
 go_upto_region 2 with fail
 clear c0 c1 c2 c3 c4
 go_wp2_with (at_make; refine wpList_make_full _ rfl (.tmp 25) (.tmp 25) 32 rfl w.heap.size 4 i1 (.bool false) 1 Tryz.underlying32 HHI.out hy0 hy1 .i64 .i64 _ _ n rfl rfl rfl rfl b2 b3 HB.out.size ?_; intro w3 hmade hgr3; rw [made_bools] at hmade; have hg3 : Below W2.heap.size W2 w3 := ⟨hgr3.os, hgr3.tape, hgr3.output, hgr3.size, fun k hk => hgr3.block k hk (by simp)⟩; have f0 := below_cell hg3 d0; have f1 := below_cell hg3 d1; have g0 := below_cell hg3 e0; have g4 := below_cell hg3 e4; have y0 := below_cell hg3 y0; obtain ⟨R, hR⟩ : ∃ R, W2.heap.size = R := ⟨_, rfl⟩; have HR := Lib.hid hR; have HO := Lib.hid (show OB w3 w.heap.size R n (upTo 0 (tvN t l at_)) from by unfold OB; rw [bl_zero, ← hR]; exact hmade); have HG := Lib.hid hg3; rw [hR]; clear hmade hgr3 hg3 hR)
 refine (HVS.out _ (HB.out.trans (HG.out.mono HB.out.size))).mono ?_
 rintro e w5 ⟨AP, cP, V, vs, rfl, hNP, hcP, hRV, hps, hb5⟩
 obtain ⟨p1, p2, -, p4⟩ := HPW.out vs
 have HTB := Lib.hid (show ∀ a b, a < n → b < n → (tableR P vs n a b = true ↔ sem (tmOf t) (foI l root) a b) from fun a b ha hb => by
  have h9 : (tmOf t).n = n := HL.out.2
  have h8 := p4 (fun q y hy p hp => by
   have hq : q < (placesR P 19).length := (List.getElem?_eq_some_iff.1 hy).1
   have h7 := hps p (by omega) q
   rw [decide_eq_true hq, Bool.true_and] at h7
   refine h7.trans ?_
   show tvN t l (kidN l (Tree.startL l root + ((placesR P 19)[q]?).getD 0) 0) p = true ↔ _
   rw [hy]
   exact tvN_iff _ _ _ _) (a := a) (b := b) (by omega) (by omega)
  rwa [h9] at h8)
 obtain ⟨np, hnp⟩ : ∃ q, P.length = q := ⟨_, rfl⟩
 rw [hnp] at p2 hcP ⊢
 have HO5 := Lib.hid (HO.out.below hb5)
 have HG5 := Lib.hid (HG.out.trans (hb5.mono HG.out.size))
 have HRC := Lib.hid (refReach AP V np cP n n P vs w5 hnp hcP.1 (by have := HL.out.1; omega) hNP hRV (by omega))
 rw [gotR_yes p1] at HRC
 clear hNP hcP hRV hps hb5 p1 p4 hnp f0 f1 g0 g4 y0
 go_wp2_with fail
 refine HRC.out.mono ?_
 rintro e w6 ⟨BT, RT, rfl, hTab, hb6⟩
 obtain ⟨M, hM⟩ : ∃ M, tableR P vs n = M := ⟨_, rfl⟩
 rw [hM] at hTab HTB
 obtain ⟨g, hg⟩ : ∃ g : Nat → Bool, (fun p => exU (fun q => decide (p ≤ q) && M p q) (fun q => Ival.hasS lo hi (apN (tmOf t) p q)) n) = g := ⟨_, rfl⟩
 have HGG := Lib.hid (show ∀ p, p < n → g p = tvN t l at_ p from fun p hp => by rw [← hg]; exact HOK.out M HTB.out p hp)
 have HGD := Lib.hid (fun p => congrFun hg p)
 have HO6 := Lib.hid (show OB w6 w.heap.size R n (upTo 0 g) from (HO5.out.below hb6).congr fun j _ => rfl)
 have HG6 := Lib.hid (HG5.out.trans (hb6.mono HG5.out.size))
 have HTAB := Lib.hid hTab
 have HR5 := Lib.hid (show R < w5.heap.size from HO5.out.lt.2)
 have HRF := Lib.hid (grown_any (o := R) (Below.refl w6.heap.size w6))
 clear hTab hb6 hM hg
 go_wp2_with fail
 go_loopw [16, 17, 50] (fun _ _ v wr => ∃ i : Nat, v = .int .i64 ((i : Nat) : Int) ∧ i ≤ n ∧ OB wr w.heap.size R n (upTo i g) ∧ w6.grownBy wr (some R)) (fun _ _ v _ => n - (intOf v).toNat)
 case atStart => exact ⟨0, rfl, Nat.zero_le _, HO6.out, HRF.out⟩
 case round =>
  obtain ⟨i, rfl, hin, hO, hB⟩ := hrel
  have HOi := Lib.hid hO
  have HBi := Lib.hid hB
  by_cases hlt : i < n
  ·have hii : ((i : Nat) : Int) < ((n : Nat) : Int) := by omega
   have HOJ := Lib.hid (hO.congr (g := upJ g i false) fun p _ => upJ_zero g i p)
   clear hO hB
   go_wp2_with fail
   obtain ⟨wo, hwo⟩ : ∃ wo, wo = wr := ⟨_, rfl⟩
   subst hwo
   obtain ⟨ht, hht⟩ : ∃ f, (fun q => Ival.hasS lo hi (apN (tmOf t) i q)) = f := ⟨_, rfl⟩
   obtain ⟨ok, hok⟩ : ∃ f : Nat → Bool, (fun q => decide (i ≤ q) && M i q) = f := ⟨_, rfl⟩
   have HHT := Lib.hid (fun q => congrFun hht q)
   have HOKE := Lib.hid (fun q => congrFun hok q)
   have HGI := Lib.hid (show exU ok ht n = g i from by rw [← hht, ← hok]; exact HGD.out i)
   clear hht hok
   go_loopw [17, 54] (fun _ v wr => ∃ j : Nat, v = .int .i64 ((j : Nat) : Int) ∧ j ≤ n ∧ OB wr w.heap.size R n (upJ g i (exU ok ht j)) ∧ w6.grownBy wr (some R)) (fun _ v _ => n - (intOf v).toNat)
   case atStart => exact ⟨0, rfl, Nat.zero_le _, HOJ.out, HBi.out⟩
   case round =>
    obtain ⟨j, rfl, hjn, hOj, hBj⟩ := hrel
    have HOj := Lib.hid hOj
    have HBj := Lib.hid hBj
    obtain ⟨cur, hcur⟩ : ∃ x, exU ok ht j = x := ⟨_, rfl⟩
    have HCU := Lib.hid hcur
    by_cases hlj : j < n
    ·have hji : ((j : Nat) : Int) < ((n : Nat) : Int) := by omega
     have hBW := below_grownS HG6.out hBj (by rw [HR.out]; exact Nat.le_refl _) HG6.out.size
     have HBW := Lib.hid hBW
     have f0 := below_cell hBW HDE.out.1
     have f1 := below_cell hBW HDE.out.2.1
     have g0 := below_cell hBW HDE.out.2.2.1
     have g2 := below_cell hBW HDE.out.2.2.2.1
     have g3 := below_cell hBW HDE.out.2.2.2.2
     have tb0 := (HTAB.out.out.lt BT rfl).1
     have tr0 := ((HTAB.out.row i (by omega)).lt (RT i) rfl).1
     have u1 := hBj.cell (HTAB.out.outer (i := i) (by omega)) (fun e => by have h9 : some BT = some R := e; injection h9 with h9; have := HR5.out; omega)
     have u2 := hBj.cell (HTAB.out.inner (i := i) (j := j) (by omega) (by omega)) (fun e => by have h9 : some (RT i) = some R := e; injection h9 with h9; have := HR5.out; omega)
     have cR := hOj.rb i hlt
     rw [show upJ g i (exU ok ht j) i = cur from by unfold upJ; rw [if_neg (Nat.lt_irrefl _), if_pos rfl]; exact hcur] at cR
     have fR := own_fz hOj i
     have HOKJ := Lib.hid (HOKE.out j)
     obtain ⟨mv, hmv⟩ : ∃ x, M i j = x := ⟨_, rfl⟩
     have HMV := Lib.hid hmv
     rw [hmv] at u2
     have HCR := Lib.hid (And.intro cR fR)
     clear hOj hBj hBW hcur hmv tb0 tr0 cR fR
     by_cases hc : i ≤ j
     ·have hci : ((i : Nat) : Int) ≤ ((j : Nat) : Int) := by omega
      have HOF2 := Lib.hid (show ok j = mv from by rw [← HOKJ.out, ← HMV.out]; show (decide (i ≤ j) && M i j) = _; rw [decide_eq_true hc, Bool.true_and])
      clear hc
      cases mv
      ·have HOF := Lib.hid HOF2.out
       clear f0 f1 g2 g3
       go_wp2_with fail
       go_roundw
       case rel => exact ⟨j + 1, by simp, by omega, by have h1 : exU ok ht (j + 1) = exU ok ht j := by { show (exU ok ht j || (ok j && ht j)) = _; rw [HOF.out]; simp }; rw [h1]; exact HOj.out, HBj.out⟩
       case measure => (show n - (j + 1) < n - j; omega)
      ·obtain ⟨z, hz⟩ : ∃ z, Ival.hasS lo hi (apN (tmOf t) i j) = z := ⟨_, rfl⟩
       have HZ := Lib.hid (show ht j = z from by rw [← HHT.out j]; exact hz)
       have HZ2 := Lib.hid hz
       clear hz
       cases cur
       ·go_wp2_with fail
        refine Late.drew [16] (S := fun V => (V.cell? ⟨R, i, none⟩ = some (.bool false) ∧ V.cell? ⟨w.heap.size, 0, none⟩ = some (.slice NA nn nc) ∧ V.cell? ⟨w.heap.size, 1, none⟩ = some (.slice EA n ec) ∧ V.cell? ⟨w.heap.size + 1, 2, none⟩ = some (.int .i64 lo) ∧ V.cell? ⟨w.heap.size + 1, 3, none⟩ = some (.int .i64 hi)) ∧ Below wr.heap.size wr V) (by kernel_rfl) ⟨⟨HCR.out.1, f0, f1, g2, g3⟩, (Below.refl _ _).drew⟩ (fun hHeld => ?_)
        refine ltOp 0 hHeld ?_
        refine ltOp 1 hHeld ?_
        refine ltOp 2 hHeld ?_
        refine ltOp 3 hHeld ?_
        refine ltOp 4 hHeld ?_
        refine ltOp 5 hHeld ?_
        refine ltOp 6 hHeld ?_
        refine ltOp 7 hHeld ?_
        refine ltOp 8 hHeld ?_
        refine ltOp 9 hHeld ?_
        refine ltOp 10 hHeld ?_
        refine ltOp 11 hHeld ?_
        refine ltCall 12 (fun Kt hKt => ?_)
        go_simp
        (go_at_call 64; refine (refApart (HH.out.below (HBW.out.trans (hHeld.2.mono HBW.out.size))) hlt hlj).mono ?_; rintro e w7 ⟨rfl, hb7⟩; have hB7 := hHeld.2.trans (hb7.mono hHeld.2.size))
        refine hKt.out _ _ ?_ (fun hT => ?_)
        ·(exact ⟨⟨below_cell hb7 hHeld.1.1, below_cell hb7 hHeld.1.2.1, below_cell hb7 hHeld.1.2.2.1, below_cell hb7 hHeld.1.2.2.2.1, below_cell hb7 hHeld.1.2.2.2.2⟩, hB7⟩)
        clear hKt Kt hHeld
        have hHeld := hT
        clear hT
        try simp only [Act.put, tkA, tkB, tkC]
        refine ltCall 13 (fun Kt hKt => ?_)
        go_simp
        (go_at_call 63; refine (Ival.refHas lo hi (apN (tmOf t) i j) _ (ap_lt HH.out hlt hlj)).mono ?_; rintro e w8 ⟨rfl, hb8⟩; have hB8 := hHeld.2.trans (hb8.mono hHeld.2.size); have hO8 := HOj.out.below hB8; have cR := below_cell hB8 HCR.out.1; have fR := own_fz hO8 i; rw [HZ2.out])
        refine hKt.out _ _ ?_ (fun hT => ?_)
        ·(exact ⟨⟨below_cell hb8 hHeld.1.1, below_cell hb8 hHeld.1.2.1, below_cell hb8 hHeld.1.2.2.1, below_cell hb8 hHeld.1.2.2.2.1, below_cell hb8 hHeld.1.2.2.2.2⟩, hB8⟩)
        clear hKt Kt hHeld
        have hHeld := hT
        clear hT
        try simp only [Act.put, tkA, tkB, tkC]
        refine ltOp 14 hHeld ?_
        refine ltOp 15 hHeld ?_
        refine ltLast 16 (fun Kt hKt => ?_)
        go_simp
        refine hKt.out _ _ trivial (fun hT => ?_)
        clear hKt Kt hHeld
        have hHeld := hT
        clear hT
        try simp only [Act.put, tkA, tkB, tkC]
        refine wpAnyH_done (by kernel_rfl) ?_ _
        have HON := Lib.hid (show OB (w8.setCell ⟨R, i, none⟩ (.bool z)) w.heap.size R n (upJ g i (exU ok ht (j + 1))) from by
         have h1 := own_put (k := i) hO8 (.bool z)
         rw [upJ_set hlt g _ z] at h1
         have h2 : exU ok ht (j + 1) = z := by { show (exU ok ht j || (ok j && ht j)) = _; rw [HCU.out, HOF2.out, HZ.out]; simp }
         rw [h2]; exact h1)
        have HBN := Lib.hid (grown_tr (grown_tr HBj.out (grown_any (o := R) hB8)) (grown_cell w8 ⟨R, i, none⟩ (.bool z)))
        clear hHeld hO8 cR fR hb7 hb8 hB7 hB8
        go_wp2_with fail
        go_roundw
        case rel => exact ⟨j + 1, by simp, by omega, HON.out, HBN.out⟩
        case measure => (show n - (j + 1) < n - j; omega)
       ·have hB8 : Below wr.heap.size wr wr.drew := (Below.refl _ _).drew
        have hO8 := HOj.out.below hB8
        have cR := below_cell hB8 HCR.out.1
        have fR := own_fz hO8 i
        go_wp2_with fail
        refine Late.drew [16] (S := fun V => (V.cell? ⟨R, i, none⟩ = some (.bool true) ∧ V.cell? ⟨w.heap.size, 0, none⟩ = some (.slice NA nn nc) ∧ V.cell? ⟨w.heap.size, 1, none⟩ = some (.slice EA n ec) ∧ V.cell? ⟨w.heap.size + 1, 2, none⟩ = some (.int .i64 lo) ∧ V.cell? ⟨w.heap.size + 1, 3, none⟩ = some (.int .i64 hi)) ∧ Below wr.heap.size wr V) (by kernel_rfl) ⟨⟨HCR.out.1, f0, f1, g2, g3⟩, (Below.refl _ _).drew⟩ (fun hHeld => ?_)
        refine ltOp 0 hHeld ?_
        refine ltOp 1 hHeld ?_
        refine ltOp 2 hHeld ?_
        refine ltOp 3 hHeld ?_
        refine ltOp 4 hHeld ?_
        refine ltOp 5 hHeld ?_
        refine ltOp 6 hHeld ?_
        refine Late.take (i := 7) (oi := ?tko59) (v := undef) ?tkh59 (by kernel_rfl) (by kernel_rfl) (by kernel_rfl) (by kernel_rfl) ?tkq59 ?tky59 hHeld ?tkr59
        case tkh59 => (simp only [List.getElem?_toArray, List.getElem?_cons_succ, List.getElem?_cons_zero]; rfl)
        case tkq59 => exact fun _ _ _ h => h
        case tky59 => exact Or.inr ⟨by rfl, rfl⟩
        try simp only [Act.put, List.setIfInBounds_toArray, List.set_cons_zero, List.set_cons_succ]
        refine Late.take (i := 8) (oi := ?tko60) (v := undef) ?tkh60 (by kernel_rfl) (by kernel_rfl) (by kernel_rfl) (by kernel_rfl) ?tkq60 ?tky60 hHeld ?tkr60
        case tkh60 => (simp only [List.getElem?_toArray, List.getElem?_cons_succ, List.getElem?_cons_zero]; rfl)
        case tkq60 => exact fun _ _ _ h => h
        case tky60 => exact Or.inr ⟨by rfl, rfl⟩
        try simp only [Act.put, List.setIfInBounds_toArray, List.set_cons_zero, List.set_cons_succ]
        refine Late.take (i := 9) (oi := ?tko61) (v := undef) ?tkh61 (by kernel_rfl) (by kernel_rfl) (by kernel_rfl) (by kernel_rfl) ?tkq61 ?tky61 hHeld ?tkr61
        case tkh61 => (simp only [List.getElem?_toArray, List.getElem?_cons_succ, List.getElem?_cons_zero]; rfl)
        case tkq61 => exact fun _ _ _ h => h
        case tky61 => exact Or.inr ⟨by rfl, rfl⟩
        try simp only [Act.put, List.setIfInBounds_toArray, List.set_cons_zero, List.set_cons_succ]
        refine Late.take (i := 10) (oi := ?tko62) (v := undef) ?tkh62 (by kernel_rfl) (by kernel_rfl) (by kernel_rfl) (by kernel_rfl) ?tkq62 ?tky62 hHeld ?tkr62
        case tkh62 => (simp only [List.getElem?_toArray, List.getElem?_cons_succ, List.getElem?_cons_zero]; rfl)
        case tkq62 => exact fun _ _ _ h => h
        case tky62 => exact Or.inr ⟨by rfl, rfl⟩
        try simp only [Act.put, List.setIfInBounds_toArray, List.set_cons_zero, List.set_cons_succ]
        refine Late.take (i := 11) (oi := ?tko63) (v := undef) ?tkh63 (by kernel_rfl) (by kernel_rfl) (by kernel_rfl) (by kernel_rfl) ?tkq63 ?tky63 hHeld ?tkr63
        case tkh63 => (simp only [List.getElem?_toArray, List.getElem?_cons_succ, List.getElem?_cons_zero]; rfl)
        case tkq63 => exact fun _ _ _ h => h
        case tky63 => exact Or.inr ⟨by rfl, rfl⟩
        try simp only [Act.put, List.setIfInBounds_toArray, List.set_cons_zero, List.set_cons_succ]
        refine Late.take (i := 12) (oi := ?tko64) (v := undef) ?tkh64 (by kernel_rfl) (by kernel_rfl) (by kernel_rfl) (by kernel_rfl) ?tkq64 ?tky64 hHeld ?tkr64
        case tkh64 => (simp only [List.getElem?_toArray, List.getElem?_cons_succ, List.getElem?_cons_zero]; rfl)
        case tkq64 => exact fun _ _ _ h => h
        case tky64 => exact Or.inr ⟨by rfl, rfl⟩
        try simp only [Act.put, List.setIfInBounds_toArray, List.set_cons_zero, List.set_cons_succ]
        refine Late.take (i := 13) (oi := ?tko65) (v := undef) ?tkh65 (by kernel_rfl) (by kernel_rfl) (by kernel_rfl) (by kernel_rfl) ?tkq65 ?tky65 hHeld ?tkr65
        case tkh65 => (simp only [List.getElem?_toArray, List.getElem?_cons_succ, List.getElem?_cons_zero]; rfl)
        case tkq65 => exact fun _ _ _ h => h
        case tky65 => exact Or.inr ⟨by rfl, rfl⟩
        try simp only [Act.put, List.setIfInBounds_toArray, List.set_cons_zero, List.set_cons_succ]
        refine ltOp 14 hHeld ?_
        refine ltOp 15 hHeld ?_
        refine ltLast 16 (fun Kt hKt => ?_)
        go_simp
        refine hKt.out _ _ trivial (fun hT => ?_)
        clear hKt Kt hHeld
        have hHeld := hT
        clear hT
        try simp only [Act.put, tkA, tkB, tkC]
        refine wpAnyH_done (by kernel_rfl) ?_ _
        have HON := Lib.hid (show OB (wr.drew.setCell ⟨R, i, none⟩ (.bool true)) w.heap.size R n (upJ g i (exU ok ht (j + 1))) from by
         have h1 := own_put (k := i) hO8 (.bool true)
         rw [upJ_set hlt g _ true] at h1
         have h2 : exU ok ht (j + 1) = true := by { show (exU ok ht j || (ok j && ht j)) = _; rw [HCU.out, HOF2.out, HZ.out]; simp }
         rw [h2]; exact h1)
        have HBN := Lib.hid (grown_tr (grown_tr HBj.out (grown_any (o := R) hB8)) (grown_cell wr.drew ⟨R, i, none⟩ (.bool true)))
        clear hHeld hO8 cR fR hB8
        go_wp2_with fail
        go_roundw
        case rel => exact ⟨j + 1, by simp, by omega, HON.out, HBN.out⟩
        case measure => (show n - (j + 1) < n - j; omega)
     ·have hci : ¬ (((i : Nat) : Int) ≤ ((j : Nat) : Int)) := by omega
      have HOF := Lib.hid (show ok j = false from by rw [← HOKJ.out]; show (decide (i ≤ j) && M i j) = _; rw [decide_eq_false hc, Bool.false_and])
      clear hc f0 f1 g2 g3
      go_wp2_with fail
      go_roundw
      case rel => exact ⟨j + 1, by simp, by omega, by have h1 : exU ok ht (j + 1) = exU ok ht j := by { show (exU ok ht j || (ok j && ht j)) = _; rw [HOF.out]; simp }; rw [h1]; exact HOj.out, HBj.out⟩
      case measure => (show n - (j + 1) < n - j; omega)
    ·obtain rfl : j = n := by omega
     have HON := Lib.hid (hOj.congr (g := upTo (i + 1) g) fun p _ => by rw [HGI.out]; exact upJ_next g i p)
     clear hOj hBj hcur
     go_wp2_with fail
     go_roundw
     case rel => exact ⟨i + 1, by simp, by omega, HON.out, HBj.out⟩
     case measure => (show j - (i + 1) < j - i; omega)
  ·obtain rfl : i = n := by omega
   clear hO hB
   go_wp2_with fail
   go_ret
   have h8 := below_grownS HG6.out HBi.out (by rw [HR.out]; exact Nat.le_refl _) HG6.out.size
   refine ⟨R, rfl, ?_, HB.out.trans (h8.mono HB.out.size)⟩
   have h1 := HOi.out
   unfold OB at h1
   rw [bl_full] at h1
   exact OB.congr h1 HGG.out
end Go.Proofs.YtdbgaccnejffpaaGreat.Sat
