/-
  The walk of the law RecordPuts (stage 9). By an AI agent.
-/
import Derived.Test.YtpcahfjejbiocaaRecordAwake
import Derived.Test.YtpcahfjejbiocaaRecordRefPut
import Derived.Test.YtpcahfjejbiocaaRecordBits
import Derived.Test.YtpcahfjejbiocaaHeldMore
import Derived.Test.YtpcahfjejbiocaaSkips
namespace Go.Proofs.Ytpcahfjejbiocaa.Record
open Go.RowKit Go.Proofs.Ytpcahfjejbiocaa.Ints Go.Proofs.Ytpcahfjejbiocaa.Mem Go.Proofs.Ytpcahfjejbiocaa.SumMath Go.Proofs.Ytpcahfjejbiocaa.SumWalks Go.Proofs.Ytpcahfjejbiocaa.Trace

theorem str_of {W : World} {A : Option Addr} {n c : Nat} {zs : List Int} (h : Rd .u8 W A n zs) : (convert 22 9 (.slice A n c)).run Try.prog W = .ok (.string (strOfNums zs)) W :=
  run_str _ _ _ Try.underlying22 Try.underlying5 Try.underlying9 h
theorem put_wf {zs : List Int} {x : Ev} (hz : ∀ z ∈ zs, (Lit.int .u8 z).wf = true) : ∀ z ∈ putR zs x, (Lit.int .u8 z).wf = true := by
  intro z h
  unfold putR at h
  split at h
  · rename_i hi
    rcases List.mem_append.1 h with h1 | h1
    · exact hz z h1
    · exact u8_all (rec_bytes hi) z h1
  · exact hz z h
/-- What both Puts leave: bytes that are as string s. -/
def GotStr (w : World) (s : ByteArray) (e : Ending) (w' : World) : Prop :=
  ∃ A n c, e = .returned (.slice A n c) ∧ (∀ W, Below w'.heap.size w' W → (convert 22 9 (.slice A n c)).run Try.prog W = .ok (.string s) W) ∧ Below w.heap.size w w'
theorem got_str {w w' : World} {zs : List Int} {x : Ev} {e : Ending} (hz : ∀ z ∈ zs, (Lit.int .u8 z).wf = true) (h : GotBytes w (putR zs x) e w') : GotStr w (strOfNums (putR zs x)) e w' := by
  obtain ⟨A, c, he, hr, -, -, -, -, hb⟩ := made_slice h (put_wf hz)
  exact ⟨A, _, c, he, fun W hW => str_of (hr.below hW), hb⟩

set_option maxHeartbeats 8000000 in
set_option maxRecDepth 100000 in
theorem lawPuts (A : Option Addr) (n c : Nat) (zs : List Int) (x : Ev) (K : Option Addr) (k : Nat) (t : Int) (b : Nat) (B : Int) (hB : B = (b : Int)) (w : World) (hA : A = none → c = 0) (hnc : n ≤ c) (hn : n ≤ 140737488351232) (h : Rd .u8 w A n zs) (hx : EvOk w x K k)
    (ht : (Lit.int .u64 t).wf = true) (hb : b < 18446744073709551616) :
    Calls Try.prog 3 #[.slice A n c, .agg #[.int .u64 x.time, .slice K x.ids.length k], .int .u64 t, .int .u64 B] w fun e w' => e = .returned (.bool true) ∧ Below w.heap.size w w' := by
  subst hB
  have hbx : Below w.heap.size w (boxE w x K k) := boxE_below (Below.refl _ _)
  have hW : w.alloc (.cells #[.int .u64 x.time, .slice K x.ids.length k] 26) = boxE w x K k := rfl
  have hs1 := boxE_size w x K k
  have e0 := Blk.new w #[.int .u64 x.time, .slice K x.ids.length k] 26 [.int .u64 x.time, .slice K x.ids.length k] rfl
  rw [hW] at e0
  have FE := lawEvent t b (b : Int) rfl (boxE w x K k) ht hb
  obtain ⟨W1, hW1⟩ : ∃ W1, boxE w x K k = W1 := ⟨_, rfl⟩
  rw [hW1] at hW hs1 e0 FE hbx
  have HE := Lib.hid FE
  have E0 := Lib.hid e0
  have HX := Lib.hid hx
  have HR := Lib.hid h
  have HBX := Lib.hid hbx
  have HZ := Lib.hid h.all
  have FP1 := Lib.hid (fun W (hW : Below w.heap.size w W) => (landPut A n c zs x K k W hA hnc hn (HR.out.below hW) (HX.out.below hW)).mono fun e w' hm => got_str HZ.out hm)
  have FQ1 := Lib.hid (fun W (hW : Below w.heap.size w W) => (refPutR A n c zs x K k W hnc hn (HR.out.below hW) (HX.out.below hW)).mono fun e w' hm => got_str HZ.out hm)
  obtain ⟨y, hy⟩ : ∃ y, evB t b = y := ⟨_, rfl⟩
  rw [hy] at HE
  obtain ⟨s1, hs1'⟩ : ∃ s, strOfNums (putR zs x) = s := ⟨_, rfl⟩
  rw [hs1'] at FP1 FQ1
  obtain ⟨s2, hs2'⟩ : ∃ s, strOfNums (putR zs y) = s := ⟨_, rfl⟩
  have FP2 := Lib.hid (fun W (hW : Below w.heap.size w W) K2 k2 (hy : EvOk W y K2 k2) => hs2' ▸ (landPut A n c zs y K2 k2 W hA hnc hn (HR.out.below hW) hy).mono fun e w' hm => got_str HZ.out hm)
  have FQ2 := Lib.hid (fun W (hW : Below w.heap.size w W) K2 k2 (hy : EvOk W y K2 k2) => hs2' ▸ (refPutR A n c zs y K2 k2 W hnc hn (HR.out.below hW) hy).mono fun e w' hm => got_str HZ.out hm)
  obtain ⟨m, hm⟩ : ∃ m, x.ids.length = m := ⟨_, rfl⟩
  obtain ⟨tm, htm⟩ : ∃ tm, x.time = tm := ⟨_, rfl⟩
  rw [hm, htm] at hW E0 FP1 FQ1 ⊢
  clear FE e0 hx h hbx hy hs1' hs2' hW1 hm htm
  go_enter Try.func3, Try.ntmps3
  go_wp2_with fail
  refine HE.out.mono ?_
  rintro e w2 ⟨K2, k2, rfl, hk2, hB2, -⟩
  obtain ⟨m2, hm2⟩ : ∃ m, y.ids.length = m := ⟨_, rfl⟩
  obtain ⟨tm2, htm2⟩ : ∃ tm, y.time = tm := ⟨_, rfl⟩
  rw [hm2, htm2] at FP2 FQ2 ⊢
  have b1 := (E0.out.later hB2).alloc (.cells #[.int .u64 tm2, .slice K2 m2 k2] 26)
  have b2 := Blk.new w2 #[.int .u64 tm2, .slice K2 m2 k2] 26 [.int .u64 tm2, .slice K2 m2 k2] rfl
  have hk3 := hk2.below ((Below.refl _ w2).alloc (Nat.le_refl _) (.cells #[.int .u64 tm2, .slice K2 m2 k2] 26))
  have hB3 := (HBX.out.trans (hB2.mono HBX.out.size))
  have hB4 := hB3.alloc hB3.size (.cells #[.int .u64 tm2, .slice K2 m2 k2] 26)
  go_wp2_with fail
  obtain ⟨V, hV⟩ : ∃ V, V = ((w2.alloc (.cells #[.int .u64 tm2, .slice K2 m2 k2] 26))).drew := ⟨_, rfl⟩
  have HB1 := Lib.hid (show Blk V w.heap.size [.int .u64 tm, .slice K m k] by rw [hV]; exact b1)
  have HB2 := Lib.hid (show Blk V w2.heap.size [.int .u64 tm2, .slice K2 m2 k2] by rw [hV]; exact b2)
  have HV := Lib.hid (show Below w.heap.size w V by rw [hV]; exact hB4.drew)
  have HK := Lib.hid (show EvOk V y K2 k2 by rw [hV]; exact hk3)
  clear b1 b2 hk3 hB3 hB4 hk2 hB2 hm2 htm2 HE E0 HX HBX hW
  refine wp_region_held_drew (S := fun W => W.cell? ⟨w.heap.size, 0, none⟩ = some (.int .u64 tm) ∧ W.cell? ⟨w.heap.size, 1, none⟩ = some (.slice K m k) ∧ W.cell? ⟨w2.heap.size, 0, none⟩ = some (.int .u64 tm2) ∧ W.cell? ⟨w2.heap.size, 1, none⟩ = some (.slice K2 m2 k2)) (by kernel_rfl) (by rw [← hV]; exact ⟨HB1.out.cell 0 rfl, HB1.out.cell 1 rfl, HB2.out.cell 0 rfl, HB2.out.cell 1 rfl⟩) (fun hHeld => ?_)
  rw [← hV] at hHeld ⊢
  clear hV
  refine wpAnyH_take (i := 0) (oi := ?tko1) (v := ?tkv1) ?tkh1 (by kernel_rfl) (by kernel_rfl) (by kernel_rfl) ?tkq1 ?tky1 hHeld ?tkr1
  case tkh1 => (simp only [List.getElem?_toArray, List.getElem?_cons_zero]; rfl)
  case tkq1 => exact fun _ _ _ h => h
  case tky1 => exact Or.inl ⟨by rfl, by intro wSw hSw; (try dsimp only at hSw); go_simp; try with_reducible rfl⟩
  try simp only [Act.put, List.setIfInBounds_toArray, List.set_cons_zero, List.set_cons_succ]
  refine wpAnyH_take (i := 1) (oi := ?tko2) (v := ?tkv2) ?tkh2 (by kernel_rfl) (by kernel_rfl) (by kernel_rfl) ?tkq2 ?tky2 hHeld ?tkr2
  case tkh2 => (simp only [List.getElem?_toArray, List.getElem?_cons_succ, List.getElem?_cons_zero]; rfl)
  case tkq2 => exact fun _ _ _ h => h
  case tky2 => exact Or.inl ⟨by rfl, by intro wSw hSw; (try dsimp only at hSw); go_simp; try with_reducible rfl⟩
  try simp only [Act.put, List.setIfInBounds_toArray, List.set_cons_zero, List.set_cons_succ]
  refine wpAnyH_take (i := 4) (oi := ?tko3) (v := ?tkv3) ?tkh3 (by kernel_rfl) (by kernel_rfl) (by kernel_rfl) ?tkq3 ?tky3 hHeld ?tkr3
  case tkh3 => (simp only [List.getElem?_toArray, List.getElem?_cons_succ, List.getElem?_cons_zero]; rfl)
  case tkq3 => exact fun _ _ _ h => h
  case tky3 => exact Or.inl ⟨by rfl, by intro wSw hSw; (try dsimp only at hSw); go_simp; try with_reducible rfl⟩
  try simp only [Act.put, List.setIfInBounds_toArray, List.set_cons_zero, List.set_cons_succ]
  refine wpAnyH_take (i := 5) (oi := ?tko4) (v := ?tkv4) ?tkh4 (by kernel_rfl) (by kernel_rfl) (by kernel_rfl) ?tkq4 ?tky4 hHeld ?tkr4
  case tkh4 => (simp only [List.getElem?_toArray, List.getElem?_cons_succ, List.getElem?_cons_zero]; rfl)
  case tkq4 => exact fun _ _ _ h => h
  case tky4 => exact Or.inl ⟨by rfl, by intro wSw hSw; (try dsimp only at hSw); go_simp; try with_reducible rfl⟩
  try simp only [Act.put, List.setIfInBounds_toArray, List.set_cons_zero, List.set_cons_succ]
  refine wpAnyH_ready (rs := [2]) (by kernel_rfl) (by simp) ?_
  refine AllReadyH.cons (o := ?tko5) ?tkh5 (fun Kt5 hKt5 => ?_) AllReadyH.nil
  case tkh5 => (simp only [List.getElem?_toArray, List.getElem?_cons_succ, List.getElem?_cons_zero]; rfl)
  go_simp
  (go_at_call 10; refine (FP1.out V HV.out).mono ?_; rintro e v1 ⟨A1, n1, c1, rfl, hc1, hd1⟩; have k1 := HB1.out.later hd1; have k2' := HB2.out.later hd1)
  refine hKt5.out _ _ ?_ (fun hHt5 => ?_)
  · (exact ⟨k1.cell 0 rfl, k1.cell 1 rfl, k2'.cell 0 rfl, k2'.cell 1 rfl⟩)
  clear hKt5 Kt5 hHeld
  have hHeld := hHt5
  clear hHt5
  try simp only [Act.put, List.setIfInBounds_toArray, List.set_cons_zero, List.set_cons_succ]
  refine Held.more (fun W => (W.cell? ⟨w.heap.size, 0, none⟩ = some (.int .u64 tm) ∧ W.cell? ⟨w.heap.size, 1, none⟩ = some (.slice K m k) ∧ W.cell? ⟨w2.heap.size, 0, none⟩ = some (.int .u64 tm2) ∧ W.cell? ⟨w2.heap.size, 1, none⟩ = some (.slice K2 m2 k2)) ∧ (convert 22 9 (.slice A1 n1 c1)).run Try.prog W = .ok (.string s1) W) (fun W h => h.1) ⟨hHeld, hc1 _ (Below.refl _ _)⟩ (fun hHeld => ?_)
  refine wpAnyH_take (i := 3) (oi := ?tko6) (v := ?tkv6) ?tkh6 (by kernel_rfl) (by kernel_rfl) (by kernel_rfl) ?tkq6 ?tky6 hHeld ?tkr6
  case tkh6 => (simp only [List.getElem?_toArray, List.getElem?_cons_succ, List.getElem?_cons_zero]; rfl)
  case tkq6 => exact fun _ _ _ h => h
  case tky6 => exact Or.inl ⟨by rfl, by intro wSw hSw; (try dsimp only at hSw); go_simp; try with_reducible rfl⟩
  try simp only [Act.put, List.setIfInBounds_toArray, List.set_cons_zero, List.set_cons_succ]
  have hB5 := HV.out.trans (hd1.mono HV.out.size)
  refine wpAnyH_ready (rs := [6]) (by kernel_rfl) (by simp) ?_
  refine AllReadyH.cons (o := ?tko7) ?tkh7 (fun Kt7 hKt7 => ?_) AllReadyH.nil
  case tkh7 => (simp only [List.getElem?_toArray, List.getElem?_cons_succ, List.getElem?_cons_zero]; rfl)
  go_simp
  (go_at_call 11; refine (FQ1.out v1 hB5).mono ?_; rintro e v2 ⟨A2, n2, c2, rfl, hc2, hd2⟩; have k3 := k1.later hd2; have k4 := k2'.later hd2)
  refine hKt7.out _ _ ?_ (fun hHt7 => ?_)
  · (exact ⟨⟨k3.cell 0 rfl, k3.cell 1 rfl, k4.cell 0 rfl, k4.cell 1 rfl⟩, hc1 _ hd2⟩)
  clear hKt7 Kt7 hHeld
  have hHeld := hHt7
  clear hHt7
  try simp only [Act.put, List.setIfInBounds_toArray, List.set_cons_zero, List.set_cons_succ]
  refine Held.more (fun W => ((W.cell? ⟨w.heap.size, 0, none⟩ = some (.int .u64 tm) ∧ W.cell? ⟨w.heap.size, 1, none⟩ = some (.slice K m k) ∧ W.cell? ⟨w2.heap.size, 0, none⟩ = some (.int .u64 tm2) ∧ W.cell? ⟨w2.heap.size, 1, none⟩ = some (.slice K2 m2 k2)) ∧ (convert 22 9 (.slice A1 n1 c1)).run Try.prog W = .ok (.string s1) W) ∧ (convert 22 9 (.slice A2 n2 c2)).run Try.prog W = .ok (.string s1) W) (fun W h => h.1) ⟨hHeld, hc2 _ (Below.refl _ _)⟩ (fun hHeld => ?_)
  refine wpAnyH_take (i := 7) (oi := ?tko8) (v := ?tkv8) ?tkh8 (by kernel_rfl) (by kernel_rfl) (by kernel_rfl) ?tkq8 ?tky8 hHeld ?tkr8
  case tkh8 => (simp only [List.getElem?_toArray, List.getElem?_cons_succ, List.getElem?_cons_zero]; rfl)
  case tkq8 => exact fun _ _ _ h => h
  case tky8 => exact Or.inl ⟨by rfl, by intro wSw hSw; (try dsimp only at hSw); go_simp; try with_reducible rfl⟩
  try simp only [Act.put, List.setIfInBounds_toArray, List.set_cons_zero, List.set_cons_succ]
  refine wpAnyH_take (i := 8) (oi := ?tko9) (v := ?tkv9) ?tkh9 (by kernel_rfl) (by kernel_rfl) (by kernel_rfl) ?tkq9 ?tky9 hHeld ?tkr9
  case tkh9 => (simp only [List.getElem?_toArray, List.getElem?_cons_succ, List.getElem?_cons_zero]; rfl)
  case tkq9 => exact fun _ _ _ h => h
  case tky9 => exact Or.inl ⟨by rfl, by intro wSw hSw; (try dsimp only at hSw); go_simp; try with_reducible rfl⟩
  try simp only [Act.put, List.setIfInBounds_toArray, List.set_cons_zero, List.set_cons_succ]
  refine wpAnyH_take (i := 9) (oi := ?tko10) (v := ?tkv10) ?tkh10 (by kernel_rfl) (by kernel_rfl) (by kernel_rfl) ?tkq10 ?tky10 hHeld ?tkr10
  case tkh10 => (simp only [List.getElem?_toArray, List.getElem?_cons_succ, List.getElem?_cons_zero]; rfl)
  case tkq10 => exact fun _ _ _ h => h
  case tky10 => exact Or.inl ⟨by rfl, by intro wSw hSw; (try dsimp only at hSw); go_simp; try with_reducible rfl⟩
  try simp only [Act.put, List.setIfInBounds_toArray, List.set_cons_zero, List.set_cons_succ]
  refine wpAnyH_take (i := 10) (oi := ?tko11) (v := ?tkv11) ?tkh11 (by kernel_rfl) (by kernel_rfl) (by kernel_rfl) ?tkq11 ?tky11 hHeld ?tkr11
  case tkh11 => (simp only [List.getElem?_toArray, List.getElem?_cons_succ, List.getElem?_cons_zero]; rfl)
  case tkq11 => exact fun _ _ _ h => h
  case tky11 => exact Or.inl ⟨by rfl, by intro wSw hSw; (try dsimp only at hSw); go_simp; try with_reducible rfl⟩
  try simp only [Act.put, List.setIfInBounds_toArray, List.set_cons_zero, List.set_cons_succ]
  refine wpAnyH_take (i := 11) (oi := ?tko12) (v := ?tkv12) ?tkh12 (by kernel_rfl) (by kernel_rfl) (by kernel_rfl) ?tkq12 ?tky12 hHeld ?tkr12
  case tkh12 => (simp only [List.getElem?_toArray, List.getElem?_cons_succ, List.getElem?_cons_zero]; rfl)
  case tkq12 => exact fun _ _ _ h => h
  case tky12 => exact Or.inl ⟨by rfl, by intro wSw hSw; (try dsimp only at hSw); go_simp; try with_reducible rfl⟩
  try simp only [Act.put, List.setIfInBounds_toArray, List.set_cons_zero, List.set_cons_succ]
  refine wpAnyH_take (i := 14) (oi := ?tko13) (v := ?tkv13) ?tkh13 (by kernel_rfl) (by kernel_rfl) (by kernel_rfl) ?tkq13 ?tky13 hHeld ?tkr13
  case tkh13 => (simp only [List.getElem?_toArray, List.getElem?_cons_succ, List.getElem?_cons_zero]; rfl)
  case tkq13 => exact fun _ _ _ h => h
  case tky13 => exact Or.inl ⟨by rfl, by intro wSw hSw; (try dsimp only at hSw); go_simp; try with_reducible rfl⟩
  try simp only [Act.put, List.setIfInBounds_toArray, List.set_cons_zero, List.set_cons_succ]
  refine wpAnyH_take (i := 15) (oi := ?tko14) (v := ?tkv14) ?tkh14 (by kernel_rfl) (by kernel_rfl) (by kernel_rfl) ?tkq14 ?tky14 hHeld ?tkr14
  case tkh14 => (simp only [List.getElem?_toArray, List.getElem?_cons_succ, List.getElem?_cons_zero]; rfl)
  case tkq14 => exact fun _ _ _ h => h
  case tky14 => exact Or.inl ⟨by rfl, by intro wSw hSw; (try dsimp only at hSw); go_simp; try with_reducible rfl⟩
  try simp only [Act.put, List.setIfInBounds_toArray, List.set_cons_zero, List.set_cons_succ]
  have hB6 := hB5.trans (hd2.mono hB5.size)
  have hK2 := (HK.out.below hd1).below hd2
  refine wpAnyH_ready (rs := [12]) (by kernel_rfl) (by simp) ?_
  refine AllReadyH.cons (o := ?tko15) ?tkh15 (fun Kt15 hKt15 => ?_) AllReadyH.nil
  case tkh15 => (simp only [List.getElem?_toArray, List.getElem?_cons_succ, List.getElem?_cons_zero]; rfl)
  go_simp
  (go_at_call 10; refine (FP2.out v2 hB6 _ _ hK2).mono ?_; rintro e v3 ⟨A3, n3, c3, rfl, hc3, hd3⟩; have k5 := k3.later hd3; have k6 := k4.later hd3)
  refine hKt15.out _ _ ?_ (fun hHt15 => ?_)
  · (exact ⟨⟨⟨k5.cell 0 rfl, k5.cell 1 rfl, k6.cell 0 rfl, k6.cell 1 rfl⟩, hc1 _ (hd2.trans (hd3.mono hd2.size))⟩, hc2 _ hd3⟩)
  clear hKt15 Kt15 hHeld
  have hHeld := hHt15
  clear hHt15
  try simp only [Act.put, List.setIfInBounds_toArray, List.set_cons_zero, List.set_cons_succ]
  refine Held.more (fun W => (((W.cell? ⟨w.heap.size, 0, none⟩ = some (.int .u64 tm) ∧ W.cell? ⟨w.heap.size, 1, none⟩ = some (.slice K m k) ∧ W.cell? ⟨w2.heap.size, 0, none⟩ = some (.int .u64 tm2) ∧ W.cell? ⟨w2.heap.size, 1, none⟩ = some (.slice K2 m2 k2)) ∧ (convert 22 9 (.slice A1 n1 c1)).run Try.prog W = .ok (.string s1) W) ∧ (convert 22 9 (.slice A2 n2 c2)).run Try.prog W = .ok (.string s1) W) ∧ (convert 22 9 (.slice A3 n3 c3)).run Try.prog W = .ok (.string s2) W) (fun W h => h.1) ⟨hHeld, hc3 _ (Below.refl _ _)⟩ (fun hHeld => ?_)
  refine wpAnyH_take (i := 13) (oi := ?tko16) (v := ?tkv16) ?tkh16 (by kernel_rfl) (by kernel_rfl) (by kernel_rfl) ?tkq16 ?tky16 hHeld ?tkr16
  case tkh16 => (simp only [List.getElem?_toArray, List.getElem?_cons_succ, List.getElem?_cons_zero]; rfl)
  case tkq16 => exact fun _ _ _ h => h
  case tky16 => exact Or.inl ⟨by rfl, by intro wSw hSw; (try dsimp only at hSw); go_simp; try with_reducible rfl⟩
  try simp only [Act.put, List.setIfInBounds_toArray, List.set_cons_zero, List.set_cons_succ]
  have hB7 := hB6.trans (hd3.mono hB6.size)
  refine wpAnyH_ready (rs := [16]) (by kernel_rfl) (by simp) ?_
  refine AllReadyH.cons (o := ?tko17) ?tkh17 (fun Kt17 hKt17 => ?_) AllReadyH.nil
  case tkh17 => (simp only [List.getElem?_toArray, List.getElem?_cons_succ, List.getElem?_cons_zero]; rfl)
  go_simp
  (go_at_call 11; refine (FQ2.out v3 hB7 _ _ (hK2.below hd3)).mono ?_; rintro e v4 ⟨A4, n4, c4, rfl, hc4, hd4⟩; have k7 := k5.later hd4; have k8 := k6.later hd4)
  refine hKt17.out _ _ ?_ (fun hHt17 => ?_)
  · (exact ⟨⟨⟨⟨k7.cell 0 rfl, k7.cell 1 rfl, k8.cell 0 rfl, k8.cell 1 rfl⟩, hc1 _ (hd2.trans ((hd3.trans (hd4.mono hd3.size)).mono hd2.size))⟩, hc2 _ (hd3.trans (hd4.mono hd3.size))⟩, hc3 _ hd4⟩)
  clear hKt17 Kt17 hHeld
  have hHeld := hHt17
  clear hHt17
  try simp only [Act.put, List.setIfInBounds_toArray, List.set_cons_zero, List.set_cons_succ]
  refine Held.more (fun W => ((((W.cell? ⟨w.heap.size, 0, none⟩ = some (.int .u64 tm) ∧ W.cell? ⟨w.heap.size, 1, none⟩ = some (.slice K m k) ∧ W.cell? ⟨w2.heap.size, 0, none⟩ = some (.int .u64 tm2) ∧ W.cell? ⟨w2.heap.size, 1, none⟩ = some (.slice K2 m2 k2)) ∧ (convert 22 9 (.slice A1 n1 c1)).run Try.prog W = .ok (.string s1) W) ∧ (convert 22 9 (.slice A2 n2 c2)).run Try.prog W = .ok (.string s1) W) ∧ (convert 22 9 (.slice A3 n3 c3)).run Try.prog W = .ok (.string s2) W) ∧ (convert 22 9 (.slice A4 n4 c4)).run Try.prog W = .ok (.string s2) W) (fun W h => h.1) ⟨hHeld, hc4 _ (Below.refl _ _)⟩ (fun hHeld => ?_)
  refine wpAnyH_take (i := 17) (oi := ?tko18) (v := ?tkv18) ?tkh18 (by kernel_rfl) (by kernel_rfl) (by kernel_rfl) ?tkq18 ?tky18 hHeld ?tkr18
  case tkh18 => (simp only [List.getElem?_toArray, List.getElem?_cons_succ, List.getElem?_cons_zero]; rfl)
  case tkq18 => exact fun _ _ _ h => h
  case tky18 => exact Or.inl ⟨by rfl, by intro wSw hSw; (try dsimp only at hSw); go_simp; try with_reducible rfl⟩
  try simp only [Act.put, List.setIfInBounds_toArray, List.set_cons_zero, List.set_cons_succ]
  refine wpAnyH_take (i := 18) (oi := ?tko19) (v := ?tkv19) ?tkh19 (by kernel_rfl) (by kernel_rfl) (by kernel_rfl) ?tkq19 ?tky19 hHeld ?tkr19
  case tkh19 => (simp only [List.getElem?_toArray, List.getElem?_cons_succ, List.getElem?_cons_zero]; rfl)
  case tkq19 => exact fun _ _ _ h => h
  case tky19 => exact Or.inl ⟨by rfl, by intro wSw hSw; (try dsimp only at hSw); go_simp; try with_reducible rfl⟩
  try simp only [Act.put, List.setIfInBounds_toArray, List.set_cons_zero, List.set_cons_succ]
  refine wpAnyH_take (i := 19) (oi := ?tko20) (v := ?tkv20) ?tkh20 (by kernel_rfl) (by kernel_rfl) (by kernel_rfl) ?tkq20 ?tky20 hHeld ?tkr20
  case tkh20 => (simp only [List.getElem?_toArray, List.getElem?_cons_succ, List.getElem?_cons_zero]; rfl)
  case tkq20 => exact fun _ _ _ h => h
  case tky20 => exact Or.inl ⟨by rfl, by intro wSw hSw; (try dsimp only at hSw); go_simp; try with_reducible rfl⟩
  try simp only [Act.put, List.setIfInBounds_toArray, List.set_cons_zero, List.set_cons_succ]
  refine wpAnyH_take (i := 20) (oi := ?tko21) (v := ?tkv21) ?tkh21 (by kernel_rfl) (by kernel_rfl) (by kernel_rfl) ?tkq21 ?tky21 hHeld ?tkr21
  case tkh21 => (simp only [List.getElem?_toArray, List.getElem?_cons_succ, List.getElem?_cons_zero]; rfl)
  case tkq21 => exact fun _ _ _ h => h
  case tky21 => exact Or.inl ⟨by rfl, by intro wSw hSw; (try dsimp only at hSw); go_simp; try with_reducible rfl⟩
  try simp only [Act.put, List.setIfInBounds_toArray, List.set_cons_zero, List.set_cons_succ]
  have hB8 := hB7.trans (hd4.mono hB7.size)
  refine wpAnyH_ready (rs := [21]) (by kernel_rfl) (by simp) ?_
  refine AllReadyH.cons (o := ?tko22) ?tkh22 (fun Kt22 hKt22 => ?_) AllReadyH.nil
  case tkh22 => (simp only [List.getElem?_toArray, List.getElem?_cons_succ, List.getElem?_cons_zero]; rfl)
  go_simp
  (go_at_call 12; refine (awake v4).mono ?_; rintro e v5 ⟨rfl, hd5⟩; have k9 := k7.later hd5; have k10 := k8.later hd5)
  refine hKt22.out _ _ ?_ (fun hHt22 => ?_)
  · (exact ⟨⟨⟨⟨⟨k9.cell 0 rfl, k9.cell 1 rfl, k10.cell 0 rfl, k10.cell 1 rfl⟩, hc1 _ (hd2.trans ((hd3.trans ((hd4.trans (hd5.mono hd4.size)).mono hd3.size)).mono hd2.size))⟩, hc2 _ (hd3.trans ((hd4.trans (hd5.mono hd4.size)).mono hd3.size))⟩, hc3 _ (hd4.trans (hd5.mono hd4.size))⟩, hc4 _ hd5⟩)
  clear hKt22 Kt22 hHeld
  have hHeld := hHt22
  clear hHt22
  try simp only [Act.put, List.setIfInBounds_toArray, List.set_cons_zero, List.set_cons_succ]
  refine wpAnyH_take (i := 22) (oi := ?tko23) (v := ?tkv23) ?tkh23 (by kernel_rfl) (by kernel_rfl) (by kernel_rfl) ?tkq23 ?tky23 hHeld ?tkr23
  case tkh23 => (simp only [List.getElem?_toArray, List.getElem?_cons_succ, List.getElem?_cons_zero]; rfl)
  case tkq23 => exact fun _ _ _ h => h
  case tky23 => exact Or.inl ⟨by rfl, by intro wSw hSw; (try dsimp only at hSw); go_simp; try with_reducible rfl⟩
  try simp only [Act.put, List.setIfInBounds_toArray, List.set_cons_zero, List.set_cons_succ]
  refine wpAnyH_take (i := 23) (oi := ?tko24) (v := ?tkv24) ?tkh24 (by kernel_rfl) (by kernel_rfl) (by kernel_rfl) ?tkq24 ?tky24 hHeld ?tkr24
  case tkh24 => (simp only [List.getElem?_toArray, List.getElem?_cons_succ, List.getElem?_cons_zero]; rfl)
  case tkq24 => exact fun _ _ _ h => h
  case tky24 => exact Or.inl ⟨by rfl, by intro wSw hSw; (try dsimp only at hSw); go_simp; try with_reducible rfl⟩
  try simp only [Act.put, List.setIfInBounds_toArray, List.set_cons_zero, List.set_cons_succ]
  refine wpAnyH_done (by kernel_rfl) ?_ _
  clear hHeld
  go_wp2
  go_ret
  exact ⟨rfl, hB8.trans (hd5.mono hB8.size)⟩
end Go.Proofs.Ytpcahfjejbiocaa.Record
