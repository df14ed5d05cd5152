/-
  The walk of the law TraceAdds. Written by wip/tools/genadds8.py. By an AI agent.
-/
import Derived.Test.YtlkfdnbgplkiiaaTraceTells
import Derived.Test.YtlkfdnbgplkiiaaTraceAwake
import Derived.Test.YtlkfdnbgplkiiaaTraceMake
namespace Go.Proofs.Ytlkfdnbgplkiiaa.Trace
open Go.RowKit Go.Proofs.Ytlkfdnbgplkiiaa.Ints Go.Proofs.Ytlkfdnbgplkiiaa.Mem

theorem index_zero (a b c d : Value) (W : World) : (Instr.index 44 (.agg #[a, b, c, d]) (.int .i64 0)).run Try.prog W = .ok (.agg #[a, b]) W := by kernel_rfl
theorem index_one (a b c d : Value) (W : World) : (Instr.index 44 (.agg #[a, b, c, d]) (.int .i64 1)).run Try.prog W = .ok (.agg #[c, d]) W := by kernel_rfl

set_option maxHeartbeats 16000000 in
set_option maxRecDepth 100000 in
theorem lawAdds (NA : Option Addr) (nn nc : Nat) (EA : Option Addr) (ne ec : Nat) (t : Tr) (start : Int) (A : Option Addr) (n c : Nat) (zs : List Int) (x : Ev) (K : Option Addr) (xc : Nat) (w : World)
    (h : TrOk Any w NA nn nc EA ne ec t) (h0 : 0 ≤ start ∧ start ≤ 18446744073709551615) (hr : Rd .u16 w A n zs) (hc : n ≤ maxLen) (hx : EvOk w x K xc) :
    Calls Try.prog 6 #[.agg #[.slice NA nn nc, .slice EA ne ec], .int .u64 start, .slice A n c, .agg #[.int .u64 x.time, .slice K x.ids.length xc]] w fun e w' => e = .returned (.bool true) ∧ Below w.heap.size w w' := by
  have hm : maxLen = 9223372036854775807 := rfl
  obtain ⟨hs1, hs2⟩ := h0
  obtain ⟨hw1, hw2⟩ := wf_u64 hx.1
  have hq64 : (x.ids.length : Int) ≤ 9223372036854775807 := by have := hx.2.2; omega
  have HA := Lib.hid (fun W => awake W)
  have hG := fun W (hb : Below w.heap.size w W) => lawGreat NA nn nc EA ne ec t W (h.below hb)
  have HO := Lib.hid h
  have HE := Lib.hid hx
  obtain ⟨tm, htm⟩ : ∃ tm, x.time = tm := ⟨_, rfl⟩
  obtain ⟨q, hq⟩ : ∃ q, x.ids.length = q := ⟨_, rfl⟩
  rw [htm] at hw1 hw2 ⊢
  rw [hq] at hq64 ⊢
  have HTM := Lib.hid htm
  have HQ := Lib.hid hq
  have b2 : Below w.heap.size w ((boxT w NA nn nc EA ne ec).alloc (.cells #[.int .u64 tm, .slice K q xc] 39)) := ((Below.refl _ w).alloc (Nat.le_refl _) _).alloc (by simp) _
  have H2 := Lib.hid b2
  have HALL := Lib.hid (fun W (hb : Below ((boxT w NA nn nc EA ne ec).alloc (.cells #[.int .u64 tm, .slice K q xc] 39)).heap.size ((boxT w NA nn nc EA ne ec).alloc (.cells #[.int .u64 tm, .slice K q xc] 39)) W) => by
    have e : (boxE w NA nn nc EA ne ec tm K q xc).heap.size = w.heap.size + 2 := by simp [boxE, boxT]
    have hb' : Below (boxE w NA nn nc EA ne ec tm K q xc).heap.size (boxE w NA nn nc EA ne ec tm K q xc) W := hb
    rw [e] at hb'
    exact boxE_at hb')
  rcases hg : greatT t
  · rw [great_not hg] at hG
    have G := Lib.hid hG
    have hsm := great_small hg
    by_cases h200 : 200 < q
    · have h200' : decide ((q : Int) > 200) = true := by simp; omega
      clear h hr hc hx hm htm hq b2 hG hg hsm h200
      go_enter Try.func6, Try.ntmps6
      go_wp2_with fail
      refine (G.out _ H2.out).mono ?_
      rintro e w1 ⟨rfl, hb1⟩
      obtain ⟨a0, a1, a2, a3, -⟩ := HALL.out _ hb1
      have D1 := Lib.hid (H2.out.trans (hb1.mono H2.out.size))
      clear hb1
      go_wp2_with fail
      refine (HA.out _).mono ?_
      rintro e w6 ⟨rfl, hb6⟩
      have D6 := Lib.hid (D1.out.trans (hb6.mono D1.out.size))
      clear hb6
      go_wp2
      go_ret
      exact ⟨rfl, D6.out⟩
    · have h200' : decide ((q : Int) > 200) = false := by simp; omega
      have HK2 := Lib.hid (show x.ids.length ≤ 1048576 by omega)
      have HLE0 := Lib.hid (show ne ≤ 1048576 by have := hsm.1.events; rw [h.elen] at this; exact this)
      have HS0 := Lib.hid hsm.1
      have HS1 := Lib.hid (make_trsmall (start := start) zs)
      have HMK := Lib.hid (fun W (hb : Below w.heap.size w W) => lawMake start A n c zs W ⟨hs1, hs2⟩ (hr.below hb) hc)
      have HSM := Lib.hid (fun (N1 : Option Addr) (a1 b1 : Nat) (E1 : Option Addr) (c1 d1 : Nat) (N2 : Option Addr) (a2 b2 : Nat) (E2 : Option Addr) (c2 d2 : Nat) W (h1 : TrOk Any W N1 a1 b1 E1 c1 d1 (makeM start zs)) (h2 : TrOk Any W N2 a2 b2 E2 c2 d2 (makeM start zs)) => by
        have := refSameTrace N1 a1 b1 E1 c1 d1 N2 a2 b2 E2 c2 d2 (makeM start zs) (makeM start zs) W h1 h2
        rw [decide_eq_true rfl] at this
        exact this)
      clear h hr hc hx hm htm hq b2 hG hg hsm h200
      go_enter Try.func6, Try.ntmps6
      go_wp2_with fail
      refine (G.out _ H2.out).mono ?_
      rintro e w1 ⟨rfl, hb1⟩
      obtain ⟨a0, a1, a2, a3, -⟩ := HALL.out _ hb1
      have E1 := Lib.hid hb1
      have D1 := Lib.hid (H2.out.trans (hb1.mono H2.out.size))
      clear hb1
      go_wp2_with fail
      refine (HMK.out _ D1.out).mono ?_
      rintro e wm ⟨NU, un, uc, EU, ue, uk, rfl, hTU, hbm⟩
      have EM := Lib.hid (E1.out.trans (hbm.mono E1.out.size))
      have DM := Lib.hid (H2.out.trans (EM.out.mono H2.out.size))
      obtain ⟨X, hX⟩ : ∃ X, wm.alloc (.cells #[.slice NU un uc, .slice EU ue uk] 26) = X := ⟨_, rfl⟩
      have hmX : Below wm.heap.size wm X := by rw [← hX]; exact (Below.refl _ _).alloc (Nat.le_refl _) _
      have hEX : Below ((boxT w NA nn nc EA ne ec).alloc (.cells #[.int .u64 tm, .slice K q xc] 39)).heap.size ((boxT w NA nn nc EA ne ec).alloc (.cells #[.int .u64 tm, .slice K q xc] 39)) X := EM.out.trans (hmX.mono EM.out.size)
      obtain ⟨c0, c1, c2, c3, -⟩ := HALL.out _ hEX
      have HX0 := Lib.hid c2
      have HX1 := Lib.hid c3
      have g0 : X.cell? ⟨wm.heap.size, 0, none⟩ = some (.slice NU un uc) := by rw [← hX]; exact box_cell 0 _ rfl
      have g1 : X.cell? ⟨wm.heap.size, 1, none⟩ = some (.slice EU ue uk) := by rw [← hX]; exact box_cell 1 _ rfl
      have HG0 := Lib.hid g0
      have HG1 := Lib.hid g1
      have DX := Lib.hid (H2.out.trans (hEX.mono H2.out.size))
      have HOX := Lib.hid (HO.out.below DX.out)
      have HOU := Lib.hid (hTU.below hmX)
      have HLE1 := Lib.hid (show ue ≤ 1048576 by have := (make_trsmall (start := start) zs).events; rw [hTU.elen] at this; exact this)
      have HEX := Lib.hid (HE.out.below DX.out)
      have hbX : ∀ W, Below X.heap.size X W → Below X.heap.size X W := fun W hb => hb
      have hbW : ∀ W, Below X.heap.size X W → Below X.heap.size X W := fun W hb => hb
      have HZX := Lib.hid (show wm.heap.size < X.heap.size by rw [← hX]; simp)
      clear hTU hbm hEX hmX a0 a1 a2 a3
      go_wp2_with fail
      clear hX
      go_loopw [32] (fun i wr => ∃ k : Nat, k ≤ 2 ∧ i = .int .i64 k ∧ Below X.heap.size X wr) (fun i _ => 2 - (intOf i).toNat)
      case atStart => exact ⟨0, by omega, rfl, Below.refl _ _⟩
      case round =>
        clear c0 c1 c2 c3 g0 g1
        obtain ⟨k, hk, rfl, hB⟩ := hrel
        have HB := Lib.hid hB
        clear hB
        have h3 : k = 0 ∨ k = 1 ∨ k = 2 := by omega
        rcases h3 with rfl | rfl | rfl
        · clear hk
          have PA := Lib.hid (fun W (hb : Below X.heap.size X W) => landAdd NA nn nc EA ne ec t x K xc W ((HOX.out).below (hbX W hb)) HS0.out ((HEX.out).below (hbX W hb)) HK2.out)
          have RA := Lib.hid (fun W (hb : Below X.heap.size X W) => refAdd NA nn nc EA ne ec t x K xc W ((HOX.out).below (hbX W hb)) ((HEX.out).below (hbX W hb)) (HLE0.out))
          have SM := Lib.hid (fun (N1 : Option Addr) (a1 b1 : Nat) (E1 : Option Addr) (c1 d1 : Nat) (N2 : Option Addr) (a2 b2 : Nat) (E2 : Option Addr) (c2 d2 : Nat) W (h1 : TrOk Any W N1 a1 b1 E1 c1 d1 (addT t x)) (h2 : TrOk Any W N2 a2 b2 E2 c2 d2 (addT t x)) => by
            have := refSameTrace N1 a1 b1 E1 c1 d1 N2 a2 b2 E2 c2 d2 (addT t x) (addT t x) W h1 h2
            rw [decide_eq_true rfl] at this
            exact this)
          obtain ⟨er, her⟩ : ∃ er : Nat, addE t x = er := ⟨_, rfl⟩
          rw [her] at PA RA
          rw [HTM.out, HQ.out] at PA RA
          have hne : ((er : Int) != (er : Int)) = false := by simp
          clear her
          have hix := index_zero (.slice NA nn nc) (.slice EA ne ec) (.slice NU un uc) (.slice EU ue uk)
          have p0' := below_cell (HB.out) HX0.out
          have p1' := below_cell (HB.out) HX1.out
          have p0 : ∀ o : Obj, (wr.alloc o).cell? ⟨w.heap.size + 1, 0, none⟩ = some (.int .u64 tm) := fun o => Lib.cell?_alloc_marked o p0'
          have p1 : ∀ o : Obj, (wr.alloc o).cell? ⟨w.heap.size + 1, 1, none⟩ = some (.slice K q xc) := fun o => Lib.cell?_alloc_marked o p1'
          go_wp2_with fail
          clear p0 p1 p0' p1'
          have ha := (HB.out).alloc (HB.out).size (.cells #[.slice NA nn nc, .slice EA ne ec] 26)
          refine (PA.out _ ha).mono ?_
          rintro e w2 ⟨N2, n2, c2, E2, m2, d2, rfl, hT2, hb2⟩
          have B2 := Lib.hid (ha.trans (hb2.mono ha.size))
          have T2 := Lib.hid hT2
          have bx := hb2
          obtain ⟨x0', x1'⟩ := (⟨below_cell (hbW _ (B2.out)) HX0.out, below_cell (hbW _ (B2.out)) HX1.out⟩ : _ ∧ _)
          have y0 := below_cell hb2 (box_cell (w := wr) (T := 26) (cs := #[.slice NA nn nc, .slice EA ne ec]) 0 _ rfl)
          have y1 := below_cell hb2 (box_cell (w := wr) (T := 26) (cs := #[.slice NA nn nc, .slice EA ne ec]) 1 _ rfl)
          clear hb2 hT2 ha bx
          have e0 : ∀ o : Obj, (w2.alloc o).cell? ⟨w.heap.size + 1, 0, none⟩ = some (.int .u64 tm) := fun o => Lib.cell?_alloc_marked o x0'
          have e1 : ∀ o : Obj, (w2.alloc o).cell? ⟨w.heap.size + 1, 1, none⟩ = some (.slice K q xc) := fun o => Lib.cell?_alloc_marked o x1'
          have z0 : ∀ o : Obj, (w2.alloc o).cell? ⟨wr.heap.size, 0, none⟩ = some (.slice NA nn nc) := fun o => Lib.cell?_alloc_marked o y0
          have z1 : ∀ o : Obj, (w2.alloc o).cell? ⟨wr.heap.size, 1, none⟩ = some (.slice EA ne ec) := fun o => Lib.cell?_alloc_marked o y1
          go_wp2_with fail
          have ha := (B2.out).alloc (B2.out).size (.cells #[.slice N2 n2 c2, .slice E2 m2 d2] 26)
          refine (RA.out _ ha).mono ?_
          rintro e w3 ⟨N3, n3, c3, E3, m3, d3, rfl, hT3, hb3⟩
          have B3 := Lib.hid (ha.trans (hb3.mono ha.size))
          have T3 := Lib.hid hT3
          have T2' := Lib.hid (((T2.out).below ((Below.refl _ w2).alloc (Nat.le_refl _) (.cells #[.slice N2 n2 c2, .slice E2 m2 d2] 26))).below hb3)
          have u0 := below_cell hb3 (box_cell (w := w2) (T := 26) (cs := #[.slice N2 n2 c2, .slice E2 m2 d2]) 0 _ rfl)
          have u1 := below_cell hb3 (box_cell (w := w2) (T := 26) (cs := #[.slice N2 n2 c2, .slice E2 m2 d2]) 1 _ rfl)
          clear hb3 hT3 ha x0' x1' y0 y1 e0 e1 z0 z1
          have u0' : ∀ o : Obj, (w3.alloc o).cell? ⟨w2.heap.size, 0, none⟩ = some (.slice N2 n2 c2) := fun o => Lib.cell?_alloc_marked o u0
          have u1' : ∀ o : Obj, (w3.alloc o).cell? ⟨w2.heap.size, 1, none⟩ = some (.slice E2 m2 d2) := fun o => Lib.cell?_alloc_marked o u1
          go_wp2_with fail
          have ha := (B3.out).alloc (B3.out).size (.cells #[.slice N3 n3 c3, .slice E3 m3 d3] 26)
          have hs := (Below.refl _ w3).alloc (Nat.le_refl _) (.cells #[.slice N3 n3 c3, .slice E3 m3 d3] 26)
          refine (SM.out _ _ _ _ _ _ _ _ _ _ _ _ _ ((T2'.out).below hs) ((T3.out).below hs)).mono ?_
          rintro e w4 ⟨rfl, hb4⟩
          have B4 := Lib.hid (ha.trans (hb4.mono ha.size))
          clear hb4 ha hs u0 u1 u0' u1'
          go_wp2
          go_roundw
          case rel => exact ⟨1, by omega, by go_num, B4.out⟩
          case measure => simp [intOf]
        · clear hk
          have PA := Lib.hid (fun W (hb : Below X.heap.size X W) => landAdd NU un uc EU ue uk (makeM start zs) x K xc W ((HOU.out).below (hbX W hb)) HS1.out ((HEX.out).below (hbX W hb)) HK2.out)
          have RA := Lib.hid (fun W (hb : Below X.heap.size X W) => refAdd NU un uc EU ue uk (makeM start zs) x K xc W ((HOU.out).below (hbX W hb)) ((HEX.out).below (hbX W hb)) (HLE1.out))
          have SM := Lib.hid (fun (N1 : Option Addr) (a1 b1 : Nat) (E1 : Option Addr) (c1 d1 : Nat) (N2 : Option Addr) (a2 b2 : Nat) (E2 : Option Addr) (c2 d2 : Nat) W (h1 : TrOk Any W N1 a1 b1 E1 c1 d1 (addT (makeM start zs) x)) (h2 : TrOk Any W N2 a2 b2 E2 c2 d2 (addT (makeM start zs) x)) => by
            have := refSameTrace N1 a1 b1 E1 c1 d1 N2 a2 b2 E2 c2 d2 (addT (makeM start zs) x) (addT (makeM start zs) x) W h1 h2
            rw [decide_eq_true rfl] at this
            exact this)
          obtain ⟨er, her⟩ : ∃ er : Nat, addE (makeM start zs) x = er := ⟨_, rfl⟩
          rw [her] at PA RA
          rw [HTM.out, HQ.out] at PA RA
          have hne : ((er : Int) != (er : Int)) = false := by simp
          clear her
          have hix := index_one (.slice NA nn nc) (.slice EA ne ec) (.slice NU un uc) (.slice EU ue uk)
          have p0' := below_cell (HB.out) HX0.out
          have p1' := below_cell (HB.out) HX1.out
          have p0 : ∀ o : Obj, (wr.alloc o).cell? ⟨w.heap.size + 1, 0, none⟩ = some (.int .u64 tm) := fun o => Lib.cell?_alloc_marked o p0'
          have p1 : ∀ o : Obj, (wr.alloc o).cell? ⟨w.heap.size + 1, 1, none⟩ = some (.slice K q xc) := fun o => Lib.cell?_alloc_marked o p1'
          go_wp2_with fail
          clear p0 p1 p0' p1'
          have ha := (HB.out).alloc (HB.out).size (.cells #[.slice NU un uc, .slice EU ue uk] 26)
          refine (PA.out _ ha).mono ?_
          rintro e w2 ⟨N2, n2, c2, E2, m2, d2, rfl, hT2, hb2⟩
          have B2 := Lib.hid (ha.trans (hb2.mono ha.size))
          have T2 := Lib.hid hT2
          have bx := hb2
          obtain ⟨x0', x1'⟩ := (⟨below_cell (hbW _ (B2.out)) HX0.out, below_cell (hbW _ (B2.out)) HX1.out⟩ : _ ∧ _)
          have y0 := below_cell hb2 (box_cell (w := wr) (T := 26) (cs := #[.slice NU un uc, .slice EU ue uk]) 0 _ rfl)
          have y1 := below_cell hb2 (box_cell (w := wr) (T := 26) (cs := #[.slice NU un uc, .slice EU ue uk]) 1 _ rfl)
          clear hb2 hT2 ha bx
          have e0 : ∀ o : Obj, (w2.alloc o).cell? ⟨w.heap.size + 1, 0, none⟩ = some (.int .u64 tm) := fun o => Lib.cell?_alloc_marked o x0'
          have e1 : ∀ o : Obj, (w2.alloc o).cell? ⟨w.heap.size + 1, 1, none⟩ = some (.slice K q xc) := fun o => Lib.cell?_alloc_marked o x1'
          have z0 : ∀ o : Obj, (w2.alloc o).cell? ⟨wr.heap.size, 0, none⟩ = some (.slice NU un uc) := fun o => Lib.cell?_alloc_marked o y0
          have z1 : ∀ o : Obj, (w2.alloc o).cell? ⟨wr.heap.size, 1, none⟩ = some (.slice EU ue uk) := fun o => Lib.cell?_alloc_marked o y1
          go_wp2_with fail
          have ha := (B2.out).alloc (B2.out).size (.cells #[.slice N2 n2 c2, .slice E2 m2 d2] 26)
          refine (RA.out _ ha).mono ?_
          rintro e w3 ⟨N3, n3, c3, E3, m3, d3, rfl, hT3, hb3⟩
          have B3 := Lib.hid (ha.trans (hb3.mono ha.size))
          have T3 := Lib.hid hT3
          have T2' := Lib.hid (((T2.out).below ((Below.refl _ w2).alloc (Nat.le_refl _) (.cells #[.slice N2 n2 c2, .slice E2 m2 d2] 26))).below hb3)
          have u0 := below_cell hb3 (box_cell (w := w2) (T := 26) (cs := #[.slice N2 n2 c2, .slice E2 m2 d2]) 0 _ rfl)
          have u1 := below_cell hb3 (box_cell (w := w2) (T := 26) (cs := #[.slice N2 n2 c2, .slice E2 m2 d2]) 1 _ rfl)
          clear hb3 hT3 ha x0' x1' y0 y1 e0 e1 z0 z1
          have u0' : ∀ o : Obj, (w3.alloc o).cell? ⟨w2.heap.size, 0, none⟩ = some (.slice N2 n2 c2) := fun o => Lib.cell?_alloc_marked o u0
          have u1' : ∀ o : Obj, (w3.alloc o).cell? ⟨w2.heap.size, 1, none⟩ = some (.slice E2 m2 d2) := fun o => Lib.cell?_alloc_marked o u1
          go_wp2_with fail
          have ha := (B3.out).alloc (B3.out).size (.cells #[.slice N3 n3 c3, .slice E3 m3 d3] 26)
          have hs := (Below.refl _ w3).alloc (Nat.le_refl _) (.cells #[.slice N3 n3 c3, .slice E3 m3 d3] 26)
          refine (SM.out _ _ _ _ _ _ _ _ _ _ _ _ _ ((T2'.out).below hs) ((T3.out).below hs)).mono ?_
          rintro e w4 ⟨rfl, hb4⟩
          have B4 := Lib.hid (ha.trans (hb4.mono ha.size))
          clear hb4 ha hs u0 u1 u0' u1'
          go_wp2
          go_roundw
          case rel => exact ⟨2, by omega, by go_num, B4.out⟩
          case measure => simp [intOf]
        · have v0 := below_cell HB.out HG0.out
          have v1 := below_cell HB.out HG1.out
          have HTE := Lib.hid (HOU.out.below HB.out)
          have HV := Lib.hid (show ∀ W, Below wr.heap.size wr W → W.cell? ⟨wm.heap.size, 0, none⟩ = some (.slice NU un uc) ∧ W.cell? ⟨wm.heap.size, 1, none⟩ = some (.slice EU ue uk) ∧ Below wr.heap.size wr W from fun W hb => ⟨below_cell hb v0, below_cell hb v1, hb⟩)
          have DR := Lib.hid (DX.out.trans (HB.out.mono DX.out.size))
          clear v0 v1
          go_wp2
          refine wp_region_held_drew (S := (fun W => W.cell? ⟨wm.heap.size, 0, none⟩ = some (.slice NU un uc) ∧ W.cell? ⟨wm.heap.size, 1, none⟩ = some (.slice EU ue uk) ∧ Below wr.heap.size wr W)) (by kernel_rfl) (HV.out _ (Below.refl _ _).drew) (fun hHeld => ?_)
          refine wpAnyH_take (i := 0) (oi := ?tko1) (v := ?tkv1) ?tkh1 (by kernel_rfl) (by kernel_rfl) (by kernel_rfl) ?tkq1 ?tky1 hHeld ?tkr1
          case tkh1 => (simp only [List.getElem?_toArray, List.getElem?_cons_zero]; rfl)
          case tkq1 => exact fun _ _ _ h => h
          case tky1 => exact Or.inl ⟨by rfl, by intro wSw hSw; (try dsimp only at hSw); go_simp; try with_reducible rfl⟩
          try simp only [Act.put, List.setIfInBounds_toArray, List.set_cons_zero, List.set_cons_succ]
          refine wpAnyH_take (i := 1) (oi := ?tko2) (v := ?tkv2) ?tkh2 (by kernel_rfl) (by kernel_rfl) (by kernel_rfl) ?tkq2 ?tky2 hHeld ?tkr2
          case tkh2 => (simp only [List.getElem?_toArray, List.getElem?_cons_succ, List.getElem?_cons_zero]; rfl)
          case tkq2 => exact fun _ _ _ h => h
          case tky2 => exact Or.inl ⟨by rfl, by intro wSw hSw; (try dsimp only at hSw); go_simp; try with_reducible rfl⟩
          try simp only [Act.put, List.setIfInBounds_toArray, List.set_cons_zero, List.set_cons_succ]
          refine wpAnyH_take (i := 2) (oi := ?tko3) (v := ?tkv3) ?tkh3 (by kernel_rfl) (by kernel_rfl) (by kernel_rfl) ?tkq3 ?tky3 hHeld ?tkr3
          case tkh3 => (simp only [List.getElem?_toArray, List.getElem?_cons_succ, List.getElem?_cons_zero]; rfl)
          case tkq3 => exact fun _ _ _ h => h
          case tky3 => exact Or.inl ⟨by rfl, by intro wSw hSw; (try dsimp only at hSw); go_simp; try with_reducible rfl⟩
          try simp only [Act.put, List.setIfInBounds_toArray, List.set_cons_zero, List.set_cons_succ]
          refine wpAnyH_ready (rs := [3]) (by kernel_rfl) (by simp) ?_
          refine AllReadyH.cons (o := ?tko4) ?tkh4 (fun Kt4 hKt4 => ?_) AllReadyH.nil
          case tkh4 => (simp only [List.getElem?_toArray, List.getElem?_cons_succ, List.getElem?_cons_zero]; rfl)
          go_simp
          (go_at_call 15; refine (HMK.out _ DR.out.drew).mono ?_; rintro e w5 ⟨N5, n5, c5, E5, m5, d5, rfl, hT5, hb5⟩; have hB5 := undrew1 hb5)
          refine hKt4.out _ _ ?_ (fun hHt4 => ?_)
          · (exact HV.out _ hB5)
          clear hKt4 Kt4 hHeld
          have hHeld := hHt4
          clear hHt4
          try simp only [Act.put, List.setIfInBounds_toArray, List.set_cons_zero, List.set_cons_succ]
          refine wpAnyH_ready (rs := [4]) (by kernel_rfl) (by simp) ?_
          refine AllReadyH.cons (o := ?tko5) ?tkh5 (fun Kt5 hKt5 => ?_) AllReadyH.nil
          case tkh5 => (simp only [List.getElem?_toArray, List.getElem?_cons_succ, List.getElem?_cons_zero]; rfl)
          go_simp
          (go_at_call 23; refine (HSM.out _ _ _ _ _ _ _ _ _ _ _ _ _ (HTE.out.below hB5) hT5).mono ?_; rintro e w6 ⟨rfl, hb6⟩; have hB6 := hB5.trans (hb6.mono hB5.size))
          refine hKt5.out _ _ ?_ (fun hHt5 => ?_)
          · (exact HV.out _ hB6)
          clear hKt5 Kt5 hHeld
          have hHeld := hHt5
          clear hHt5
          try simp only [Act.put, List.setIfInBounds_toArray, List.set_cons_zero, List.set_cons_succ]
          refine wpAnyH_take (i := 5) (oi := ?tko6) (v := ?tkv6) ?tkh6 (by kernel_rfl) (by kernel_rfl) (by kernel_rfl) ?tkq6 ?tky6 hHeld ?tkr6
          case tkh6 => (simp only [List.getElem?_toArray, List.getElem?_cons_succ, List.getElem?_cons_zero]; rfl)
          case tkq6 => exact fun _ _ _ h => h
          case tky6 => exact Or.inl ⟨by rfl, by intro wSw hSw; (try dsimp only at hSw); go_simp; try with_reducible rfl⟩
          try simp only [Act.put, List.setIfInBounds_toArray, List.set_cons_zero, List.set_cons_succ]
          refine wpAnyH_ready (rs := [6]) (by kernel_rfl) (by simp) ?_
          refine AllReadyH.cons (o := ?tko7) ?tkh7 (fun Kt7 hKt7 => ?_) AllReadyH.nil
          case tkh7 => (simp only [List.getElem?_toArray, List.getElem?_cons_succ, List.getElem?_cons_zero]; rfl)
          go_simp
          (go_at_call 9; refine (HA.out _).mono ?_; rintro e w7 ⟨rfl, hb7⟩; have hB7 := hB6.trans (hb7.mono hB6.size))
          refine hKt7.out _ _ ?_ (fun hHt7 => ?_)
          · (exact HV.out _ hB7)
          clear hKt7 Kt7 hHeld
          have hHeld := hHt7
          clear hHt7
          try simp only [Act.put, List.setIfInBounds_toArray, List.set_cons_zero, List.set_cons_succ]
          refine wpAnyH_take (i := 7) (oi := ?tko8) (v := ?tkv8) ?tkh8 (by kernel_rfl) (by kernel_rfl) (by kernel_rfl) ?tkq8 ?tky8 hHeld ?tkr8
          case tkh8 => (simp only [List.getElem?_toArray, List.getElem?_cons_succ, List.getElem?_cons_zero]; rfl)
          case tkq8 => exact fun _ _ _ h => h
          case tky8 => exact Or.inl ⟨by rfl, by intro wSw hSw; (try dsimp only at hSw); go_simp; try with_reducible rfl⟩
          try simp only [Act.put, List.setIfInBounds_toArray, List.set_cons_zero, List.set_cons_succ]
          refine wpAnyH_take (i := 8) (oi := ?tko9) (v := ?tkv9) ?tkh9 (by kernel_rfl) (by kernel_rfl) (by kernel_rfl) ?tkq9 ?tky9 hHeld ?tkr9
          case tkh9 => (simp only [List.getElem?_toArray, List.getElem?_cons_succ, List.getElem?_cons_zero]; rfl)
          case tkq9 => exact fun _ _ _ h => h
          case tky9 => exact Or.inl ⟨by rfl, by intro wSw hSw; (try dsimp only at hSw); go_simp; try with_reducible rfl⟩
          try simp only [Act.put, List.setIfInBounds_toArray, List.set_cons_zero, List.set_cons_succ]
          refine wpAnyH_done (by kernel_rfl) ?_ _
          go_wp2
          go_ret
          exact ⟨rfl, DR.out.trans (hB7.mono DR.out.size)⟩
  · rw [great_one hg] at hG
    have G := Lib.hid hG
    clear h hr hc hx hm htm hq b2 hG hg
    go_enter Try.func6, Try.ntmps6
    go_wp2_with fail
    refine (G.out _ H2.out).mono ?_
    rintro e w1 ⟨rfl, hb1⟩
    have D1 := Lib.hid (H2.out.trans (hb1.mono H2.out.size))
    clear hb1
    go_wp2_with fail
    refine (HA.out _).mono ?_
    rintro e w6 ⟨rfl, hb6⟩
    have D6 := Lib.hid (D1.out.trans (hb6.mono D1.out.size))
    clear hb6
    go_wp2
    go_ret
    exact ⟨rfl, D6.out⟩
end Go.Proofs.Ytlkfdnbgplkiiaa.Trace
