/-
  The landed add: a regular expression cut down to its own nodes, its tests' truth taken (stage 15). By an AI agent.
-/
import Derived.Test.YtdbgaccnejffpaaGreatDoorGSatDual1
import Derived.Test.YtdbgaccnejffpaaGreatDoorGSatDual25
namespace Go.Proofs.YtdbgaccnejffpaaGreatDoor.Sat
open Go.RowKit Go.Proofs.YtdbgaccnejffpaaGreatDoor.Ints Go.Proofs.YtdbgaccnejffpaaGreatDoor.Mem Go.Proofs.YtdbgaccnejffpaaGreatDoor.Src Go.Proofs.YtdbgaccnejffpaaGreatDoor.Paths Go.Proofs.YtdbgaccnejffpaaGreatDoor.Late Go.Proofs.YtdbgaccnejffpaaGreatDoor.Trace
def redsAt (d : Nat) : List RE → List Tree.Nd
 | [] => []
 | a :: xs => (redE a).map (Tree.shiftNd (d : Nat)) ++ redsAt (d + (redE a).length) xs
def endsAt (d : Nat) : List RE → List Int
 | [] => []
 | a :: xs => ((d + (redE a).length - 1 : Nat) : Int) :: endsAt (d + (redE a).length) xs
theorem reds_snoc (xs : List RE) (a : RE) : ∀ d, redsAt d (xs ++ [a]) = redsAt d xs ++ (redE a).map (Tree.shiftNd ((d + (redsAt d xs).length : Nat) : Int)) := by
 induction xs with
 | nil => intro d; simp [redsAt]
 | cons x xs ih =>
  intro d
  show _ ++ redsAt _ (xs ++ [a]) = (_ ++ redsAt _ xs) ++ _
  rw [ih, List.append_assoc]
  simp only [redsAt, List.length_append, List.length_map, Nat.add_assoc]
theorem ends_snoc (xs : List RE) (a : RE) : ∀ d, endsAt d (xs ++ [a]) = endsAt d xs ++ [((d + (redsAt d xs).length + (redE a).length - 1 : Nat) : Int)] := by
 induction xs with
 | nil => intro d; simp [endsAt, redsAt]
 | cons x xs ih =>
  intro d
  show _ :: endsAt _ (xs ++ [a]) = _ :: (endsAt _ xs ++ _)
  rw [ih]
  simp only [redsAt, List.length_append, List.length_map, Nat.add_assoc]
theorem ends_len (xs : List RE) : ∀ d, (endsAt d xs).length = xs.length := by
 induction xs with
 | nil => intro d; rfl
 | cons x xs ih => intro d; simp only [endsAt, List.length_cons, ih]
def chE : RE → List RE
 | .alt a b => [a, b]
 | .seq a b => [a, b]
 | .many a => [a]
 | _ => []
def kdE : RE → Int
 | .test _ => 19
 | .alt _ _ => 20
 | .seq _ _ => 21
 | .many _ => 22
 | _ => 18
theorem red_pos (x : RE) : 0 < (redE x).length := by
 cases x with
 | no => exact Nat.zero_lt_one
 | step => exact Nat.zero_lt_one
 | test y => show 0 < (Tree.overL _ _ _).length; rw [Paths.over_len]; omega
 | alt a b => show 0 < (Tree.overL _ _ _).length; rw [Paths.over_len]; omega
 | seq a b => show 0 < (Tree.overL _ _ _).length; rw [Paths.over_len]; omega
 | many a => show 0 < (Tree.overL _ _ _).length; rw [Paths.over_len]; omega
theorem shift_two (b : List Tree.Nd) (d e : Nat) : (b.map (Tree.shiftNd (e : Nat))).map (Tree.shiftNd (d : Nat)) = b.map (Tree.shiftNd ((d + e : Nat) : Int)) := by
 rw [List.map_map]
 refine List.map_congr_left fun n _ => ?_
 show Tree.shiftNd _ (Tree.shiftNd _ n) = _
 unfold Tree.shiftNd
 have : (n.kids.map (· + (e : Int))).map (· + (d : Int)) = n.kids.map (· + ((d + e : Nat) : Int)) := by
  rw [List.map_map]
  exact List.map_congr_left fun k _ => by show k + (e : Int) + (d : Int) = k + ((d + e : Nat) : Int); omega
 show { n with kids := _ } = { n with kids := _ }
 rw [this]
theorem red_top {x : RE} (hx : ∀ y, x ≠ .test y) (d : Nat) : (redE x).map (Tree.shiftNd (d : Nat)) = redsAt d (chE x) ++ [⟨kdE x, ⟨#[]⟩, 0, 0, endsAt d (chE x)⟩] := by
 have two : ∀ (k : Int) (a b : RE), (Tree.overL (Tree.kindNd k) (redE a) (redE b)).map (Tree.shiftNd (d : Nat)) = redsAt d [a, b] ++ [⟨k, ⟨#[]⟩, 0, 0, endsAt d [a, b]⟩] := fun k a b => by
  have h1 := red_pos a
  have h2 := red_pos b
  unfold Tree.overL
  rw [if_neg (show redE a ≠ [] from fun e => by rw [e] at h1; exact absurd h1 (by decide)), if_neg (show redE b ≠ [] from fun e => by rw [e] at h2; exact absurd h2 (by decide)), List.map_append, List.map_append, shift_two]
  simp only [redsAt, endsAt, List.append_nil, List.map_cons, List.map_nil]
  congr 2
  show Tree.shiftNd _ _ = _
  unfold Tree.shiftNd Tree.kindNd
  simp only [List.cons_append, List.nil_append, List.map_cons, List.map_nil]
  congr 2
  ·omega
  ·congr 1; omega
 cases x with
 | no => rfl
 | step => rfl
 | test y => exact absurd rfl (hx y)
 | alt a b => exact two 20 a b
 | seq a b => exact two 21 a b
 | many a =>
  have h1 := red_pos a
  show (Tree.overL (Tree.kindNd 22) (redE a) []).map _ = _
  unfold Tree.overL
  rw [if_neg (show redE a ≠ [] from fun e => by rw [e] at h1; exact absurd h1 (by decide)), if_pos rfl, List.map_nil, List.append_nil, List.map_append]
  simp only [redsAt, endsAt, chE, List.append_nil, List.map_cons, List.map_nil]
  congr 2
  unfold Tree.shiftNd Tree.kindNd
  simp only [List.map_cons, List.map_nil]
  show Tree.Nd.mk _ _ _ _ _ = Tree.Nd.mk _ _ _ _ _
  congr 2
  omega
theorem tests_ch {x : RE} (hx : ∀ y, x ≠ .test y) : tsE x = (chE x).flatMap tsE := by
 cases x with
 | no => rfl
 | step => rfl
 | test y => exact absurd rfl (hx y)
 | alt a b => simp [tsE, chE]
 | seq a b => simp [tsE, chE]
 | many a => simp [tsE, chE]
def tV (n b : Nat) : Value := .slice (some ⟨b, 0, none⟩) n n
def AddQ (J : Jd) (w0 : World) (lo gw : Nat) (bv : Nat → Nat) (x : RE) (W : World) (τ : List Value) (σ : List SN) (ts : List Value) (lv tv vv : Value) (e : Ending) (W' : World) : Prop :=
 e = .returned (.int .i64 ((σ.length + (redE x).length - 1 : Nat) : Int)) ∧ ∃ (τ' : List Value) (lv' tv' : Value) (ρ : List SN), JS J w0 τ' W' ∧ WM W' lo gw lv' tv' vv (σ ++ ρ) (ts ++ (tsE x).map fun y => tV J.n (bv y)) ∧ ρ.map (·.1) = (redE x).map (Tree.shiftNd (σ.length : Nat)) ∧
  (∀ z, z ∉ tsE x → τ'[z]? = τ[z]?) ∧ Fr J.bt gw lv tv W lv' tv' W' ∧ ∀ s ∈ ρ, ∀ b, kbl s = some b → W.heap.size ≤ b
def AddC (J : Jd) (w0 : World) (lo gw : Nat) (bv : Nat → Nat) (i : Nat) (x : RE) : Prop :=
 ∀ (W : World) (τ : List Value) (σ : List SN) (ts : List Value) (lv tv vv : Value), JS J w0 τ W → WM W lo gw lv tv vv σ ts → σ.length + (redE x).length ≤ 1000000 → ts.length + nts x ≤ 1000000 → (∀ y ∈ tsE x, τ[y]? = some (tV J.n (bv y))) →
  Calls Tryz.prog 82 #[.pointer (some ⟨gw, 0, none⟩), .pointer (some ⟨J.gj, 0, none⟩), .int .i64 ((i : Nat) : Int)] W (AddQ J w0 lo gw bv x W τ σ ts lv tv vv)
theorem Fr.blk {bt gw g : Nat} {lv tv lv' tv' : Value} {W W' : World} {vs : List Value} (h : Fr bt gw lv tv W lv' tv' W') (hb : Blk W g vs) (h1 : g ≠ bt) (h2 : g ≠ gw) (h3 : lv.ownBlock ≠ some g) (h4 : tv.ownBlock ≠ some g) : Blk W' g vs := hb.same h.size (h.block g hb.1 h1 h2 h3 h4)
theorem WM.off {W W' : World} {lo gw o : Nat} {lv tv vv : Value} {σ : List SN} {ts : List Value} (h : WM W lo gw lv tv vv σ ts) (hg : W.grownBy W' (some o)) (h1 : gw ≠ o) (h2 : lv.ownBlock ≠ some o) (h3 : tv.ownBlock ≠ some o) (h4 : ∀ s ∈ σ, kbl s ≠ some o) : WM W' lo gw lv tv vv σ ts :=
 ⟨h.blk.grown hg (fun e => h1 (by injection e)), h.hg, Nat.le_trans h.hb hg.size, World.ownsRow.kept h.nodes hg (.inr h2), World.ownsRow.kept h.tests hg (.inr h3), h.lg, h.tg, fun s hs => World.ownsRow.kept (h.kids s hs) hg (.inr (h4 s hs)), h.kg⟩
theorem Fr.off {bt gw o : Nat} {lv tv : Value} {w W W' : World} (hg : W.grownBy W' (some o)) (hw : w.heap.size ≤ o) (h0 : w.heap.size ≤ W.heap.size) {lv1 tv1 : Value} (h : Fr bt gw lv tv w lv1 tv1 W) : Fr bt gw lv tv w lv1 tv1 W' :=
 ⟨hg.os.trans h.os, hg.tape.trans h.tape, hg.output.trans h.output, Nat.le_trans h.size hg.size, fun q hq h1 h2 h3 h4 => (hg.block q (by omega) (fun e => by injection e; omega)).trans (h.block q hq h1 h2 h3 h4), h.l, h.t⟩
set_option maxHeartbeats 8000000 in
set_option maxRecDepth 100000 in
theorem add_test (J : Jd) (w0 : World) (lo gw : Nat) (bv : Nat → Nat) (i : Nat) (hi : i < J.l.length) (hk : kindN J.l i = 19) (hgj : J.gj < lo) (hbt : J.bt < lo) : AddC J w0 lo gw bv i (.test i) := by
 intro w τ σ ts lv tv vv h hm hs ht hτ
 have hl2 : (redE (.test i)).length = 2 := rfl
 rw [hl2] at hs
 have ht : ts.length + 1 ≤ 1000000 := ht
 have hτ := hτ i (List.mem_singleton.2 rfl)
 obtain ⟨b, off, nd, K, m, c, hLA, hnv, -, -, x0, -⟩ := h.node hi
 have hkd : nd.kind = 19 := by rw [← kind_of hnv.hk]; exact hk
 rw [hkd] at x0
 have x0 := below_cell h.low x0
 have c2 := h.blk.cell 2 rfl
 rw [hLA] at c2
 have hii : ((i : Nat) : Int) < ((J.l.length : Nat) : Int) := by omega
 obtain ⟨i1, hi1, hy0, hy1, hy2⟩ := info_parts infoBs
 -- the node's variable
 obtain ⟨W, hW⟩ : ∃ W, w.alloc (.cells #[.int .i64 19, .string { data := #[] }, .int .i64 0, .int .i64 0, .slice none 0 0] 37) = W := ⟨_, rfl⟩
 have hbW : Below w.heap.size w W := by rw [← hW]; exact (Below.refl _ _).alloc (Nat.le_refl _) _
 have hN : Blk W w.heap.size [.int .i64 19, .string { data := #[] }, .int .i64 0, .int .i64 0, .slice none 0 0] := by rw [← hW]; exact Blk.new w _ _ _ rfl
 have n1 : w.heap.size ≠ J.bt := by have := h.bt0; omega
 have n2 : w.heap.size ≠ gw := by have := hm.blk.1; omega
 have n3 : lv.ownBlock ≠ some w.heap.size := fun e => by have := (World.ownsRow.lt hm.nodes w.heap.size e).2; omega
 have n4 : tv.ownBlock ≠ some w.heap.size := fun e => by have := (World.ownsRow.lt hm.tests w.heap.size e).2; omega
 obtain ⟨V, hV⟩ : ∃ V, W.drew = V := ⟨_, rfl⟩
 have hWV : Below W.heap.size W V := by rw [← hV]; exact (Below.refl _ _).drew
 have hbV : Below w.heap.size w V := hbW.trans (hWV.mono hbW.size)
 have HJV := Lib.hid (h.later hbV)
 have HMV := Lib.hid (hm.later hbV)
 have HNV := Lib.hid (hN.later hWV)
 have HFV := Lib.hid (Fr.of_below (bt := J.bt) (gw := gw) (lv := lv) (tv := tv) hbV)
 have HT := Lib.hid (landTake J w0 τ i _ _ _ V (h.later hbV) hi hτ)
 have HA := Lib.hid (And.intro n1 (And.intro n2 (And.intro n3 (And.intro n4 (And.intro hgj hbt)))))
 have HSZ := Lib.hid (show (ts.length + 1 ≤ maxLen ∧ (ts.length + 1) * 24 ≤ 140737488355328) ∧ σ.length + 2 ≤ 1000000 by have q : maxLen = 9223372036854775807 := rfl; omega)
 have HLW := Lib.hid hm.hb
 have HKO := Lib.hid (show ∀ s ∈ σ, kbl s ≠ some w.heap.size from fun s hs e => by have := ((hm.kids s hs).lt e).2; omega)
 have hB4 := HMV.out.blk.cell 1 rfl
 have HB4 := Lib.hid hB4
 have HW := Lib.hid hW
 clear h hm hs ht hτ hnv hkd hLA hbW hN hWV hbV n1 n2 n3 n4 hgj hbt hi hk hl2 hB4 hW
 go_enter Tryz.func82, Tryz.ntmps82
 go_wp2_with fail
 rw [HW.out]
 refine Late.drew [12] (S := fun V => V.cell? ⟨gw, 1, none⟩ = some tv) (by kernel_rfl) (by rw [hV]; exact HB4.out) (fun hHeld => ?_)
 rw [hV] at hHeld ⊢
 refine ltOp 0 hHeld ?_
 refine ltOp 1 hHeld ?_
 refine ltOp 2 hHeld ?_
 refine ltOp 3 hHeld ?_
 refine ltOp 4 hHeld ?_
 refine ltOp 5 hHeld ?_
 refine ltOp 6 hHeld ?_
 refine ltCall 7 (fun Kt hKt => ?_)
 go_simp
 (go_at_call 25; refine HT.out.mono ?_; rintro e w1 ⟨rfl, j1, g1⟩)
 refine hKt.out _ _ ?_ (fun hT => ?_)
 ·(exact (HMV.out.truth g1 HA.out.2.2.2.2.2).blk.cell 1 rfl)
 clear hKt Kt hHeld
 have hHeld := hT
 clear hT
 try simp only [Act.put, tkA, tkB, tkC]
 have hal : Below w1.heap.size w1 (w1.alloc (.cells #[.slice (some ⟨bv i, 0, none⟩) J.n J.n] 52)) := (Below.refl _ _).alloc (Nat.le_refl _) _
 have HM1 := Lib.hid ((HMV.out.truth g1 HA.out.2.2.2.2.2).later hal)
 have HN1 := Lib.hid (heap_alloc_new w1 (.cells #[.slice (some ⟨bv i, 0, none⟩) J.n J.n] 52))
 have HJ1 := Lib.hid (j1.later hal)
 have HF1 := Lib.hid ((HFV.out.trans (Fr.of_grown g1)).trans (Fr.of_below hal))
 have HB1 := Lib.hid ((HNV.out.grown g1 (fun e => HA.out.1 (by injection e))).later hal)
 refine ltCall 8 (fun Kt hKt => ?_)
 go_simp
 refine hKt.out _ _ ?_ (fun hT => ?_)
 ·(exact HM1.out.blk.cell 1 rfl)
 clear hKt Kt hHeld
 have hHeld := hT
 clear hT
 try simp only [Act.put, tkA, tkB, tkC]
 refine ltCall 9 (fun Kt hKt => ?_)
 (refine step_append_lies (w := w1.alloc (.cells #[.slice (some ⟨bv i, 0, none⟩) J.n J.n] 52)) rfl (.tmp 26) (.tmp 30) 63 rfl lo 52 i1 _ 1 24 Tryz.underlying63 hi1 hy0 hy1 hy2 rfl (by decide) tv ts.length _ (by rfl) HM1.out.tests ⟨w1.heap.size, 0, none⟩ 1 1 [.slice (some ⟨bv i, 0, none⟩) J.n J.n] (by rfl) rfl (World.news_of_block HN1.out) (by intro u hu; rw [List.mem_singleton.1 hu]; rfl) (by decide) HSZ.out.1.1 HSZ.out.1.2 HM1.out.hb _ rfl ?_; intro q cap w3 hown hgr hq hlt)
 refine hKt.out _ _ ?_ (fun hT => ?_)
 ·(exact (HM1.out.blk.grown hgr (fun e => HM1.out.tg e.symm)).cell 1 rfl)
 clear hKt Kt hHeld
 have hHeld := hT
 clear hT
 try simp only [Act.put, tkA, tkB, tkC]
 have k1 := (HM1.out.blk.grown hgr (fun e => HM1.out.tg e.symm)).cell 1 rfl
 have y1 := (HM1.out.blk.grown hgr (fun e => HM1.out.tg e.symm)).fz 1 rfl
 refine ltOp 10 hHeld ?_
 refine ltOp 11 hHeld ?_
 refine ltLast 12 (fun Kt hKt => ?_)
 go_simp
 refine hKt.out _ _ trivial (fun hT => ?_)
 clear hKt Kt hHeld
 have hHeld := hT
 clear hT
 try simp only [Act.put, tkA, tkB, tkC]
 refine wpAnyH_done (by kernel_rfl) ?_ _
 obtain ⟨hM, hF, hL⟩ := HM1.out.test (.slice (some ⟨bv i, 0, none⟩) J.n J.n) rfl hown hgr hq J.bt
 obtain ⟨W4, hW4⟩ : ∃ W4, w3.setCell ⟨gw, 1, none⟩ (.slice (some ⟨q, 0, none⟩) (ts.length + 1) cap) = W4 := ⟨_, rfl⟩
 obtain ⟨tv4, htv4⟩ : ∃ t4, Value.slice (some ⟨q, 0, none⟩) (ts.length + 1) cap = t4 := ⟨_, rfl⟩
 rw [hW4] at hM hF hL ⊢
 rw [htv4] at hM hF
 have HM4 := Lib.hid hM
 have HJ4 := Lib.hid (HJ1.out.under hL HA.out.2.2.2.2.1 HA.out.2.2.2.2.2)
 have HF4 := Lib.hid (HF1.out.trans hF)
 have hB4' := hF.blk HB1.out HA.out.1 HA.out.2.1 HA.out.2.2.1 HA.out.2.2.2.1
 have hsz : w.heap.size < w1.heap.size := by have h1 := HNV.out.1; have h2 := g1.size; omega
 have hsa : (w1.alloc (.cells #[.slice (some ⟨bv i, 0, none⟩) J.n J.n] 52)).heap.size = w1.heap.size + 1 := by simp
 have hF9 := hF.size
 have htn : tv4.ownBlock ≠ some w.heap.size := fun e => (hF.t _ e).elim HA.out.2.2.2.1 (fun e2 => by omega)
 have htn2 : w1.heap.size ≤ W4.heap.size := by omega
 have HP1 := Lib.hid (landPut J.bt lo gw lv tv4 vv σ (ts ++ [.slice (some ⟨bv i, 0, none⟩) J.n J.n]) 1 0 0 ⟨#[]⟩ [] none 0 0 W4 hM rfl (World.ownsRow_nil _ _ _ _) (fun e => by cases e) (by have := HSZ.out.2; omega))
 have HB4b := Lib.hid hB4'
 have HTN := Lib.hid (And.intro htn htn2)
 have HSW := Lib.hid hsz
 clear hM hF hL hHeld hW4 htv4 k1 y1 hown hgr hq hlt HM1 HMV HNV HN1 HF1 HB1 HB4 hal j1 g1 hB4' hsz htn htn2 hsa hF9 HT HFV hV HW
 go_wp2_with fail
 refine HP1.out.mono ?_
 rintro e w5 ⟨rfl, lv5, hM5, hF5, hL5⟩
 have HM5 := Lib.hid hM5
 have HJ5 := Lib.hid (HJ4.out.under hL5 HA.out.2.2.2.2.1 HA.out.2.2.2.2.2)
 have HF5 := Lib.hid (HF4.out.trans hF5)
 have hl5 : lv5.ownBlock ≠ some w.heap.size := fun e => (hF5.l _ e).elim HA.out.2.2.1 (fun e2 => by have := HTN.out.2; have := HSW.out; omega)
 have hB5 := hF5.blk HB4b.out HA.out.1 HA.out.2.1 HA.out.2.2.1 HTN.out.1
 have HSW5 := Lib.hid (show w.heap.size < w5.heap.size from by have := HTN.out.2; have := HSW.out; have := hF5.size; omega)
 obtain ⟨d, hd⟩ : ∃ d, σ.length = d := ⟨_, rfl⟩
 have HD := Lib.hid hd
 obtain ⟨W6, hW6⟩ : ∃ W6, w5.alloc (.cells #[.int .i64 ((d : Nat) : Int)] 3) = W6 := ⟨_, rfl⟩
 have hb6 : Below w5.heap.size w5 W6 := by rw [← hW6]; exact (Below.refl _ _).alloc (Nat.le_refl _) _
 have hr6 : W6.ownsRow lo 3 1 (.slice (some ⟨w5.heap.size, 0, none⟩) 1 1) 1 [.int .i64 ((d : Nat) : Int)] := by rw [← hW6]; exact World.ownsRow_lit w5 #[.int .i64 ((d : Nat) : Int)] 1 hM5.hb (by decide) rfl
 have hB6 := hB5.later hb6
 have c4 := hB6.cell 4 rfl
 have f4 := hB6.fz 4 rfl
 obtain ⟨W7, hW7⟩ : ∃ W7, W6.setCell ⟨w.heap.size, 4, none⟩ (.slice (some ⟨w5.heap.size, 0, none⟩) 1 1) = W7 := ⟨_, rfl⟩
 have hg7 : W6.grownBy W7 (some w.heap.size) := by rw [← hW7]; exact grown_cell W6 ⟨w.heap.size, 4, none⟩ _
 have hB7 : Blk W7 w.heap.size [.int .i64 19, .string { data := #[] }, .int .i64 0, .int .i64 0, .slice (some ⟨w5.heap.size, 0, none⟩) 1 1] := by rw [← hW7]; exact hB6.set 4 _ (by simp)
 have hM7 : WM W7 lo gw lv5 tv4 vv (σ ++ [(⟨1, ⟨#[]⟩, 0, 0, []⟩, none, 0)]) (ts ++ [.slice (some ⟨bv i, 0, none⟩) J.n J.n]) := (hM5.later hb6).off hg7 HA.out.2.1.symm hl5 HTN.out.1 (fun s hs => by
  rcases List.mem_append.1 hs with hs | hs
  ·exact HKO.out s hs
  ·rw [List.mem_singleton.1 hs]; exact fun e => by cases e)
 have hr7 : KR W7 lo (⟨19, ⟨#[]⟩, 0, 0, [((d : Nat) : Int)]⟩, some ⟨w5.heap.size, 0, none⟩, 1) := World.ownsRow.kept hr6 hg7 (.inr (fun e => absurd (show w5.heap.size = w.heap.size by injection e) (by have := HSW5.out; omega)))
 have hJ7 : JS J w0 (τ.set i (.slice none 0 0)) W7 := (HJ5.out.later hb6).kept hg7 (by have := (HJ5.out).low.size; have h0 := HLW.out; have := HA.out.2.2.2.2.1; have := HJ5.out.hg; omega) (fun e => by have := HLW.out; have := HA.out.2.2.2.2.1; omega) (fun e => HA.out.1 e.symm)
 have HF7 := Lib.hid (Fr.off hg7 (Nat.le_refl _) (by have := HSW5.out; have := hb6.size; omega) (HF5.out.trans (Fr.of_below hb6)))
 have HJ7 := Lib.hid hJ7
 have HP2 := Lib.hid (landPut J.bt lo gw lv5 tv4 vv _ _ 19 0 0 ⟨#[]⟩ [((d : Nat) : Int)] (some ⟨w5.heap.size, 0, none⟩) 1 1 W7 hM7 rfl hr7 (fun e => absurd (show w5.heap.size = gw by injection e) (by have := HM5.out.blk.1; omega)) (by rw [List.length_append]; have := HSZ.out.2; show σ.length + 1 ≤ _; omega))
 have b0 := hB7.cell 0 rfl
 have b1 := hB7.cell 1 rfl
 have b2 := hB7.cell 2 rfl
 have b3 := hB7.cell 3 rfl
 have b4 := hB7.cell 4 rfl
 rw [hd]
 clear hM5 hF5 hL5 hB5 hl5 hb6 hr6 hB6 hg7 hB7 hM7 hr7 hJ7 hd HP1
 go_wp2_with fail
 refine HP2.out.mono ?_
 rintro e w8 ⟨rfl, lv8, hM8, hF8, hL8⟩
 have HM8 := Lib.hid hM8
 have HJ8 := Lib.hid (HJ7.out.under hL8 HA.out.2.2.2.2.1 HA.out.2.2.2.2.2)
 have HF8 := Lib.hid (HF7.out.trans hF8)
 clear hM8 hF8 hL8 HP2 b0 b1 b2 b3 b4 c4 f4
 go_wp2_with fail
 go_ret
 refine ⟨?_, τ.set i (.slice none 0 0), lv8, tv4, [(⟨1, ⟨#[]⟩, 0, 0, []⟩, none, 0), (⟨19, ⟨#[]⟩, 0, 0, [((d : Nat) : Int)]⟩, some ⟨w5.heap.size, 0, none⟩, 1)], HJ8.out, ?_, ?_, fun z hz => ?_, HF8.out, fun s hs b hb => ?_⟩
 ·have e : ((σ.length + (redE (.test i)).length - 1 : Nat) : Int) = ((σ.length : Nat) : Int) + 1 := by
   show ((σ.length + 2 - 1 : Nat) : Int) = _
   omega
  rw [e]
  rfl
 ·have h9 := HM8.out
  rw [List.append_assoc] at h9
  exact h9
 ·show [_, _] = [Tree.shiftNd _ _, Tree.shiftNd _ _]
  rw [HD.out]
  unfold Tree.shiftNd
  simp [Tree.kindNd]
 ·exact set_off _ (fun e => hz (by rw [← e]; exact List.mem_singleton.2 rfl))
 ·rcases List.mem_cons.1 hs with hs | hs
  ·rw [hs] at hb; cases hb
  ·rw [List.mem_singleton.1 hs] at hb
   have : w5.heap.size = b := by injection hb
   have := HSW5.out
   omega
theorem WM.offR {W W' : World} {lo gw : Nat} {row : Option Nat} {lv tv vv : Value} {σ : List SN} {ts : List Value} (h : WM W lo gw lv tv vv σ ts) (hg : W.grownBy W' row) (h1 : some gw ≠ row) (h2 : lv.ownBlock = none ∨ lv.ownBlock ≠ row) (h3 : tv.ownBlock = none ∨ tv.ownBlock ≠ row) (h4 : ∀ s ∈ σ, kbl s = none ∨ kbl s ≠ row) : WM W' lo gw lv tv vv σ ts :=
 ⟨h.blk.grown hg h1, h.hg, Nat.le_trans h.hb hg.size, World.ownsRow.kept h.nodes hg h2, World.ownsRow.kept h.tests hg h3, h.lg, h.tg, fun s hs => World.ownsRow.kept (h.kids s hs) hg (h4 s hs), h.kg⟩
theorem ne_or {v : Value} {row : Option Nat} (h : ∀ q, v.ownBlock = some q → row ≠ some q) : v.ownBlock = none ∨ v.ownBlock ≠ row := by
 cases hv : v.ownBlock with
 | none => exact .inl rfl
 | some q => exact .inr (fun e => h q hv e.symm)
structure AddI (J : Jd) (w0 : World) (lo gw : Nat) (bv : Nat → Nat) (w : World) (τ : List Value) (σ : List SN) (ts : List Value) (lv tv vv : Value) (kd : Int) (xs : List RE) (q : Nat) (K : Option Addr) (c : Nat) (τq : List Value) (lvq tvq : Value) (ρ : List SN) (wr : World) : Prop where
 js : JS J w0 τq wr
 wm : WM wr lo gw lvq tvq vv (σ ++ ρ) (ts ++ ((xs.take q).flatMap tsE).map fun y => tV J.n (bv y))
 nodes : ρ.map (·.1) = redsAt σ.length (xs.take q)
 off : ∀ z, z ∉ (xs.take q).flatMap tsE → τq[z]? = τ[z]?
 fr : Fr J.bt gw lv tv w lvq tvq wr
 l1 : lvq.ownBlock ≠ some w.heap.size
 t1 : tvq.ownBlock ≠ some w.heap.size
 new : ∀ s ∈ ρ, ∀ b, kbl s = some b → w.heap.size ≤ b
 sep : ∀ s ∈ σ ++ ρ, ∀ b, kbl s = some b → (Value.slice K q c).ownBlock ≠ some b
 box : wr.ownsRow lo 37 5 (.slice (some ⟨w.heap.size, 0, none⟩) 1 1) 1 [.int .i64 kd, .string { data := #[] }, .int .i64 0, .int .i64 0, .slice K q c]
 row : wr.ownsRow lo 3 1 (.slice K q c) q ((endsAt σ.length (xs.take q)).map (Value.int .i64))
 kg : (Value.slice K q c).ownBlock ≠ some gw
 kw : ∀ b, (Value.slice K q c).ownBlock = some b → w.heap.size < b
theorem take_snocE {xs : List RE} {q : Nat} {a : RE} (h : xs[q]? = some a) : xs.take (q + 1) = xs.take q ++ [a] := by
 obtain ⟨hq, e⟩ := List.getElem?_eq_some_iff.1 h
 rw [List.take_add_one, h]
 rfl
theorem reds_len (xs : List RE) : ∀ d e, (redsAt d xs).length = (redsAt e xs).length := by
 induction xs with
 | nil => intro d e; rfl
 | cons x xs ih => intro d e; simp only [redsAt, List.length_append, List.length_map]; rw [ih _ (e + (redE x).length)]
theorem reds_app (xs ys : List RE) : ∀ d, (redsAt d (xs ++ ys)).length = (redsAt d xs).length + (redsAt d ys).length := by
 induction xs with
 | nil => intro d; simp [redsAt]
 | cons x xs ih =>
  intro d
  show (_ ++ redsAt _ (xs ++ ys)).length = (_ ++ redsAt _ xs).length + _
  rw [List.length_append, List.length_append, ih, reds_len ys (d + (redE x).length) d, Nat.add_assoc]
theorem split_at {xs : List RE} {q : Nat} {a : RE} (h : xs[q]? = some a) : xs = xs.take q ++ a :: xs.drop (q + 1) := by
 obtain ⟨hq, e⟩ := List.getElem?_eq_some_iff.1 h
 conv => lhs; rw [← List.take_append_drop q xs]
 rw [List.drop_eq_getElem_cons hq, e]
theorem reds_take {xs : List RE} {q : Nat} {a : RE} (h : xs[q]? = some a) (d : Nat) : (redsAt d (xs.take q)).length + (redE a).length ≤ (redsAt d xs).length := by
 have h1 := congrArg (fun l => (redsAt d l).length) (split_at h)
 have h1 : (redsAt d xs).length = (redsAt d (xs.take q ++ a :: xs.drop (q + 1))).length := h1
 rw [h1, reds_app]
 simp only [redsAt, List.length_append, List.length_map]
 omega
theorem tests_take {xs : List RE} {q : Nat} {a : RE} (h : xs[q]? = some a) : ((xs.take q).flatMap tsE).length + nts a ≤ (xs.flatMap tsE).length := by
 have h1 : (xs.flatMap tsE).length = ((xs.take q ++ a :: xs.drop (q + 1)).flatMap tsE).length := congrArg (fun l => (l.flatMap tsE).length) (split_at h)
 rw [h1, List.flatMap_append, List.flatMap_cons, List.length_append, List.length_append, tsE_len]
 omega
theorem tests_apart {xs : List RE} {q : Nat} {a : RE} (h : xs[q]? = some a) (hn : (xs.flatMap tsE).Nodup) {y : Nat} (hy : y ∈ tsE a) : y ∉ (xs.take q).flatMap tsE ∧ y ∈ xs.flatMap tsE := by
 rw [split_at h, List.flatMap_append, List.flatMap_cons] at hn
 refine ⟨fun e => ?_, List.mem_flatMap.2 ⟨a, List.mem_of_getElem? h, hy⟩⟩
 exact (List.nodup_append.1 hn).2.2 y e y (List.mem_append_left _ hy) rfl
theorem Fr.offB {bt gw : Nat} {lv tv lv1 tv1 : Value} {w W W' : World} (h : Fr bt gw lv tv w lv1 tv1 W) (hb : Below w.heap.size W W') : Fr bt gw lv tv w lv1 tv1 W' :=
 ⟨hb.os.trans h.os, hb.tape.trans h.tape, hb.output.trans h.output, Nat.le_trans h.size hb.size, fun q hq h1 h2 h3 h4 => (hb.block q hq).trans (h.block q hq h1 h2 h3 h4), h.l, h.t⟩
theorem AddI.kv {J : Jd} {w0 w wr w1 : World} {lo gw q : Nat} {bv : Nat → Nat} {τ τq : List Value} {σ ρ : List SN} {ts : List Value} {lv tv vv lvq tvq lv1 tv1 : Value} {kd : Int} {xs : List RE} {K : Option Addr} {c : Nat} (h : AddI J w0 lo gw bv w τ σ ts lv tv vv kd xs q K c τq lvq tvq ρ wr) (f1 : Fr J.bt gw lvq tvq wr lv1 tv1 w1) (hA : w.heap.size ≠ J.bt ∧ w.heap.size ≠ gw) (hbt : J.bt < lo) :
  w1.ownsRow lo 3 1 (.slice K q c) q ((endsAt σ.length (xs.take q)).map (Value.int .i64)) ∧ w1.ownsRow lo 37 5 (.slice (some ⟨w.heap.size, 0, none⟩) 1 1) 1 [.int .i64 kd, .string { data := #[] }, .int .i64 0, .int .i64 0, .slice K q c] :=
 ⟨own_keep h.row (fun x hx => f1.block x (World.ownsRow.lt h.row x hx).2 (by have := (World.ownsRow.lt h.row x hx).1; omega) (fun e => h.kg (e ▸ hx)) (row_apart h.row h.wm.nodes tne.1 hx) (row_apart h.row h.wm.tests tne.2.1 hx)),
  own_keep h.box (fun x hx => f1.block x (World.ownsRow.lt h.box x hx).2 (by have hx : some w.heap.size = some x := hx; injection hx with hx; rw [← hx]; exact hA.1) (by have hx : some w.heap.size = some x := hx; injection hx with hx; rw [← hx]; exact hA.2) (by have hx : some w.heap.size = some x := hx; rw [← hx]; exact h.l1) (by have hx : some w.heap.size = some x := hx; rw [← hx]; exact h.t1))⟩
theorem box_at {w1 : World} {lo b : Nat} {kd : Int} {v : Value} (h : w1.ownsRow lo 37 5 (.slice (some ⟨b, 0, none⟩) 1 1) 1 [.int .i64 kd, .string { data := #[] }, .int .i64 0, .int .i64 0, v]) : w1.cell? ⟨b, 4, none⟩ = some v ∧ w1.frozen? ⟨b, 4, none⟩ = false := by
 have hc4 := World.ownsRow.cells h (g := b) rfl 4 _ rfl
 rw [Addr.add_lit, Nat.zero_add] at hc4
 exact ⟨hc4, own_fz h 4⟩
theorem AddI.next {J : Jd} {w0 w wr w1 w3 : World} {lo gw q q' cap D : Nat} {bv : Nat → Nat} {τ τq τ1 : List Value} {σ ρ ρ1 : List SN} {ts : List Value} {lv tv vv lvq tvq lv1 tv1 : Value} {kd : Int} {xs : List RE} {a : RE} {K : Option Addr} {c : Nat} (h : AddI J w0 lo gw bv w τ σ ts lv tv vv kd xs q K c τq lvq tvq ρ wr)
  (ha : xs[q]? = some a) (hA : w.heap.size ≠ J.bt ∧ w.heap.size ≠ gw ∧ J.gj < lo ∧ J.bt < lo) (hlo : lo ≤ w.heap.size) (hD : (σ ++ ρ).length + (redE a).length - 1 = D)
  (j1 : JS J w0 τ1 w1) (m1 : WM w1 lo gw lv1 tv1 vv ((σ ++ ρ) ++ ρ1) ((ts ++ ((xs.take q).flatMap tsE).map fun y => tV J.n (bv y)) ++ (tsE a).map fun y => tV J.n (bv y))) (r1 : ρ1.map (·.1) = (redE a).map (Tree.shiftNd ((σ ++ ρ).length : Nat)))
  (z1 : ∀ z, z ∉ tsE a → τ1[z]? = τq[z]?) (f1 : Fr J.bt gw lvq tvq wr lv1 tv1 w1) (p1 : ∀ s ∈ ρ1, ∀ b, kbl s = some b → wr.heap.size ≤ b)
  (hown : w3.ownsRow lo 3 1 (.slice (some ⟨q', 0, none⟩) (q + 1 : Nat) cap) (q + 1) ((endsAt σ.length (xs.take q)).map (Value.int .i64) ++ [.int .i64 ((D : Nat) : Int)])) (hgr : (w1.alloc (.cells #[.int .i64 ((D : Nat) : Int)] 3)).grownBy w3 (Value.slice K q c).ownBlock)
  (hq : (Value.slice K q c).ownBlock = some q' ∨ q' = (w1.alloc (.cells #[.int .i64 ((D : Nat) : Int)] 3)).heap.size) :
  AddI J w0 lo gw bv w τ σ ts lv tv vv kd xs (q + 1) (some ⟨q', 0, none⟩) cap τ1 lv1 tv1 (ρ ++ ρ1) (w3.setCell ⟨w.heap.size, 4, none⟩ (.slice (some ⟨q', 0, none⟩) (q + 1 : Nat) cap)) := by
 obtain ⟨Wa, hWa⟩ : ∃ Wa, w1.alloc (.cells #[.int .i64 ((D : Nat) : Int)] 3) = Wa := ⟨_, rfl⟩
 rw [hWa] at hgr hq
 have hba : Below w1.heap.size w1 Wa := by rw [← hWa]; exact (Below.refl _ _).alloc (Nat.le_refl _) _
 have hbox1 := own_keep h.box (w' := w1) (fun x hx => f1.block x (World.ownsRow.lt h.box x hx).2 (by have hx : some w.heap.size = some x := hx; injection hx with hx; rw [← hx]; exact hA.1) (by have hx : some w.heap.size = some x := hx; injection hx with hx; rw [← hx]; exact hA.2.1) (by have hx : some w.heap.size = some x := hx; rw [← hx]; exact h.l1) (by have hx : some w.heap.size = some x := hx; rw [← hx]; exact h.t1))
 have hboxa := below_row hbox1 hba
 have hrow1 := own_keep h.row (w' := w1) (fun x hx => f1.block x (World.ownsRow.lt h.row x hx).2 (by have := (World.ownsRow.lt h.row x hx).1; omega) (fun e => h.kg (e ▸ hx)) (row_apart h.row h.wm.nodes tne.1 hx) (row_apart h.row h.wm.tests tne.2.1 hx))
 have hrowa := below_row hrow1 hba
 have hwr : w.heap.size < wr.heap.size := (World.ownsRow.lt h.box w.heap.size rfl).2
 have hlv1 : lv1.ownBlock ≠ some w.heap.size := fun e => (f1.l _ e).elim h.l1 (by omega)
 have htv1 : tv1.ownBlock ≠ some w.heap.size := fun e => (f1.t _ e).elim h.t1 (by omega)
 have hkv : (Value.slice K q c).ownBlock ≠ some w.heap.size := fun e => by have := h.kw _ e; omega
 have hf1s := f1.size
 have hbas := hba.size
 have hb3 : Below (w.heap.size + 1) Wa w3 := ⟨hgr.os, hgr.tape, hgr.output, hgr.size, fun x hx => hgr.block x (by omega) (fun e => by have := h.kw x e.symm; omega)⟩
 have hbox3 := own_keep hboxa (w' := w3) (fun x hx => by have hx : some w.heap.size = some x := hx; injection hx with hx; rw [← hx]; exact hb3.block _ (Nat.lt_succ_self _))
 have hsep : ∀ s ∈ (σ ++ ρ) ++ ρ1, ∀ b, kbl s = some b → (Value.slice K q c).ownBlock ≠ some b := fun s hs b hb => by
  rcases List.mem_append.1 hs with hs | hs
  ·exact h.sep s hs b hb
  ·intro e
   have := p1 s hs b hb
   have := (World.ownsRow.lt h.row b e).2
   omega
 have hm3 := (m1.later hba).offR hgr (fun e => h.kg e.symm) (ne_or fun x hx => row_apart (m1.later hba).nodes hrowa tne.1.symm hx) (ne_or fun x hx => row_apart (m1.later hba).tests hrowa tne.2.1.symm hx) (fun s hs => by
  cases hk : kbl s with
  | none => exact .inl rfl
  | some b => exact .inr (fun e => hsep s hs b hk e.symm))
 obtain ⟨W4, hW4⟩ : ∃ W4, w3.setCell ⟨w.heap.size, 4, none⟩ (.slice (some ⟨q', 0, none⟩) (q + 1 : Nat) cap) = W4 := ⟨_, rfl⟩
 have hg4 : w3.grownBy W4 (some w.heap.size) := by rw [← hW4]; exact grown_cell w3 ⟨w.heap.size, 4, none⟩ _
 have hbox4 : W4.ownsRow lo 37 5 (.slice (some ⟨w.heap.size, 0, none⟩) 1 1) 1 [.int .i64 kd, .string { data := #[] }, .int .i64 0, .int .i64 0, .slice (some ⟨q', 0, none⟩) (q + 1 : Nat) cap] := by rw [← hW4]; exact own_put (k := 4) hbox3 _
 have hm4 := hm3.off hg4 (fun e => hA.2.1 e.symm) hlv1 htv1 (fun s hs e => row_apart (hm3.kids s hs) hbox3 tne.1 e rfl)
 have hq'w : w.heap.size < q' := by
  rcases hq with e | e
  ·exact h.kw _ e
  ·omega
 have hb4 : Below w.heap.size w3 W4 := below_of_grown hg4 (Nat.le_refl _) (by have := hgr.size; omega)
 have hbw : Below w.heap.size Wa W4 := (hb3.mono (Nat.le_succ _)).trans hb4
 rw [hW4]
 have hrl : ρ.length = (redsAt σ.length (xs.take q)).length := by have := congrArg List.length h.nodes; rwa [List.length_map] at this
 refine ⟨(j1.later hba).under (hbw.mono hlo) hA.2.2.1 hA.2.2.2, ?_, ?_, fun z hz => ?_, ((h.fr.trans f1).trans (Fr.of_below hba)).offB hbw, hlv1, htv1, fun s hs b hb => ?_, fun s hs b hb => ?_, hbox4, ?_, fun e => ?_, fun b e => ?_⟩
 ·rw [take_snocE ha, List.flatMap_append, List.map_append, ← List.append_assoc, ← List.append_assoc, List.flatMap_cons, List.flatMap_nil, List.append_nil]
  exact hm4
 ·rw [List.map_append, h.nodes, r1, take_snocE ha, reds_snoc, List.length_append, hrl]
 ·rw [take_snocE ha, List.flatMap_append, List.mem_append, not_or, List.flatMap_cons, List.flatMap_nil, List.append_nil] at hz
  rw [z1 z hz.2, h.off z hz.1]
 ·rcases List.mem_append.1 hs with hs | hs
  ·exact h.new s hs b hb
  ·have := p1 s hs b hb; omega
 ·rw [← List.append_assoc] at hs
  intro e
  have e : some q' = some b := e
  injection e with e
  subst e
  rcases hq with e2 | e2
  ·exact hsep s hs _ hb e2
  ·have := ((m1.kids s hs).lt hb).2
   omega
 ·rw [take_snocE ha, ends_snoc, List.map_append]
  have h5 : σ.length + (redsAt σ.length (xs.take q)).length + (redE a).length - 1 = D := by rw [← hrl, ← List.length_append]; exact hD
  rw [h5]
  rw [← hW4]
  exact World.ownsRow.kept hown (grown_cell w3 ⟨w.heap.size, 4, none⟩ _) (.inr (fun e => absurd (show q' = w.heap.size by injection e) (by omega)))
 ·have e : some q' = some gw := e
  injection e with e
  rcases hq with e2 | e2
  ·exact h.kg (by rw [e2, e])
  ·have := m1.blk.1; omega
 ·have e : some q' = some b := e
  injection e with e
  omega
set_option maxHeartbeats 8000000 in
set_option maxRecDepth 100000 in
theorem add_kids (J : Jd) (w0 : World) (lo gw : Nat) (bv : Nat → Nat) (i : Nat) (x : RE) (hi : i < J.l.length) (hx : ∀ y, x ≠ .test y) (hk : kindN J.l i = kdE x) (hch : (chE x).length = Tree.kidc (kindN J.l i)) (hkids : ∀ q a, (chE x)[q]? = some a → AddC J w0 lo gw bv (kidN J.l i q) a) (hnd : (tsE x).Nodup) (hgj : J.gj < lo) (hbt : J.bt < lo) : AddC J w0 lo gw bv i x := by
 intro w τ σ ts lv tv vv h hm hs ht hτ
 obtain ⟨b, off, nd, K0, m, c0, hLA, hnv, hcm, -, x0, -, -, -, x4⟩ := h.node hi
 have hkd : nd.kind = kdE x := by rw [← kind_of hnv.hk]; exact hk
 have hmx : (chE x).length = m := by rw [hch, hnv.len, kind_of hnv.hk]
 rw [hkd] at x0
 have x0 := below_cell h.low x0
 have x4 := below_cell h.low x4
 have c2 := h.blk.cell 2 rfl
 rw [hLA] at c2
 have hii : ((i : Nat) : Int) < ((J.l.length : Nat) : Int) := by omega
 obtain ⟨kd, hkdE⟩ : ∃ kd, kdE x = kd := ⟨_, rfl⟩
 rw [hkdE] at x0
 have hk19 : (kd == 19) = false := by
  rw [← hkdE]
  cases x with
  | test y => exact absurd rfl (hx y)
  | no => rfl
  | step => rfl
  | alt a b => rfl
  | seq a b => rfl
  | many a => rfl
 obtain ⟨xs, hxs⟩ : ∃ xs, chE x = xs := ⟨_, rfl⟩
 rw [hxs] at hmx hkids
 have htx : tsE x = xs.flatMap tsE := by rw [← hxs]; exact tests_ch hx
 have hrx : ∀ d : Nat, (redE x).map (Tree.shiftNd (d : Nat)) = redsAt d xs ++ [⟨kd, ⟨#[]⟩, 0, 0, endsAt d xs⟩] := fun d => by rw [← hxs, ← hkdE]; exact red_top hx d
 rw [htx] at hτ hnd
 have hrl : (redE x).length = (redsAt σ.length xs).length + 1 := by have := congrArg List.length (hrx σ.length); rwa [List.length_map, List.length_append] at this
 have hnx : nts x = (xs.flatMap tsE).length := by rw [← htx, tsE_len]
 rw [hrl] at hs
 rw [hnx] at ht
 obtain ⟨i1, hi1, hy0, hy1, hy2⟩ := info_parts infoI64
 obtain ⟨W, hW⟩ : ∃ W, w.alloc (.cells #[.int .i64 kd, .string { data := #[] }, .int .i64 0, .int .i64 0, .slice none 0 0] 37) = W := ⟨_, rfl⟩
 have hbW : Below w.heap.size w W := by rw [← hW]; exact (Below.refl _ _).alloc (Nat.le_refl _) _
 have hN : W.ownsRow lo 37 5 (.slice (some ⟨w.heap.size, 0, none⟩) 1 1) 1 [.int .i64 kd, .string { data := #[] }, .int .i64 0, .int .i64 0, .slice none 0 0] := by rw [← hW]; exact World.ownsRow_lit w #[.int .i64 kd, .string { data := #[] }, .int .i64 0, .int .i64 0, .slice none 0 0] 1 hm.hb (by decide) rfl
 have n1 : w.heap.size ≠ J.bt := by have := h.bt0; omega
 have n2 : w.heap.size ≠ gw := by have := hm.blk.1; omega
 have n3 : lv.ownBlock ≠ some w.heap.size := fun e => by have := (World.ownsRow.lt hm.nodes _ e).2; omega
 have n4 : tv.ownBlock ≠ some w.heap.size := fun e => by have := (World.ownsRow.lt hm.tests _ e).2; omega
 have HI0 := Lib.hid (show AddI J w0 lo gw bv w τ σ ts lv tv vv kd xs 0 none 0 τ lv tv [] W from
  ⟨h.later hbW, (by rw [List.append_nil, List.take_zero]; exact (show WM W lo gw lv tv vv σ (ts ++ []) from by rw [List.append_nil]; exact hm.later hbW)), rfl, fun _ _ => rfl, Fr.of_below hbW, n3, n4, (fun s hs => by cases hs), (fun s _ b _ e => by cases e), hN, World.ownsRow_nil _ _ _ _, fun e => (by cases e), fun b e => (by cases e)⟩)
 have c2W : (w.alloc (.cells #[.int .i64 kd, .string { data := #[] }, .int .i64 0, .int .i64 0, .slice none 0 0] 37)).cell? ⟨J.gj, 2, none⟩ = some (.slice (some ⟨b, off, none⟩) J.l.length J.lc) := below_cell ((Below.refl _ _).alloc (Nat.le_refl _) _) c2
 have x4W : (w.alloc (.cells #[.int .i64 kd, .string { data := #[] }, .int .i64 0, .int .i64 0, .slice none 0 0] 37)).cell? ⟨b, off + i * 5 + 4, none⟩ = some (.slice K0 m c0) := below_cell ((Below.refl _ _).alloc (Nat.le_refl _) _) x4
 have HA := Lib.hid (And.intro n1 (And.intro n2 (And.intro hgj hbt)))
 have HKD := Lib.hid hkids
 have HND := Lib.hid hnd
 have HT := Lib.hid hτ
 have HNV := Lib.hid hnv.kids
 have HLOW := Lib.hid (show ∀ V, Below w0.heap.size w0 V → ∀ j, j < m → ∃ b o, K0 = some ⟨b, o, none⟩ ∧ V.cell? ⟨b, o + j, none⟩ = some (.int .i64 ((kidN J.l i j : Nat) : Int)) from fun V hV j hj => by
  obtain ⟨b, o, e, h1, -⟩ := hnv.kids j hj
  exact ⟨b, o, e, below_cell hV h1⟩)
 have HSZ := Lib.hid (And.intro hs ht)
 have HLW := Lib.hid hm.hb
 have HEND := Lib.hid (And.intro hrx (And.intro htx hrl))
 have hmi : ((m : Nat) : Int) ≤ 9223372036854775807 := by have q : maxLen = 9223372036854775807 := rfl; have := hnv.cap; omega
 have HMX := Lib.hid hmx
 have HW := Lib.hid hW
 have HLWW := Lib.hid hm.hb
 have HSM := Lib.hid (show m ≤ 2 from by have h1 := hnv.len; rcases kidc_ways nd.kind with e | e | e <;> omega)
 clear h hm hs ht hτ hnv hkd hkdE hLA hbW hN n1 n2 n3 n4 hgj hbt hi hk hx hch hkids hnd htx hrx hrl hnx hxs hW hmx hcm
 go_enter Tryz.func82, Tryz.ntmps82
 go_wp2_with fail
 go_loopw [9, 51] (fun _ v wr => ∃ (q : Nat) (K : Option Addr) (c : Nat) (τq : List Value) (lvq tvq : Value) (ρ : List SN), v = .int .i64 (q : Nat) ∧ q ≤ m ∧ AddI J w0 lo gw bv w τ σ ts lv tv vv kd xs q K c τq lvq tvq ρ wr) (fun _ v _ => m - (intOf v).toNat)
 case atStart => exact ⟨0, none, 0, τ, lv, tv, [], rfl, Nat.zero_le _, by rw [HW.out]; exact HI0.out⟩
 case round =>
  obtain ⟨q, K, c, τq, lvq, tvq, ρ, rfl, hqm, hI⟩ := hrel
  have HI := Lib.hid hI
  have hc0 := World.ownsRow.cells hI.box (g := w.heap.size) rfl 0 _ rfl
  have hc1 := World.ownsRow.cells hI.box (g := w.heap.size) rfl 1 _ rfl
  have hc2 := World.ownsRow.cells hI.box (g := w.heap.size) rfl 2 _ rfl
  have hc3 := World.ownsRow.cells hI.box (g := w.heap.size) rfl 3 _ rfl
  have hc4 := World.ownsRow.cells hI.box (g := w.heap.size) rfl 4 _ rfl
  rw [Addr.add_lit, Nat.zero_add] at hc0 hc1 hc2 hc3 hc4
  by_cases hlt : q < m
  ·obtain ⟨a, ha⟩ : ∃ a, xs[q]? = some a := ⟨_, List.getElem?_eq_getElem (by rw [HMX.out]; exact hlt)⟩
   obtain ⟨kb, ko, e, xk⟩ := HLOW.out wr hI.js.low q hlt
   obtain ⟨V, hV⟩ : ∃ V, wr.drew = V := ⟨_, rfl⟩
   have hWV : Below wr.heap.size wr V := by rw [← hV]; exact (Below.refl _ _).drew
   have hl1 : ρ.length = (redsAt σ.length (xs.take q)).length := by have := congrArg List.length hI.nodes; rwa [List.length_map] at this
   have HADD := Lib.hid (HKD.out q a ha V τq (σ ++ ρ) (ts ++ ((xs.take q).flatMap tsE).map fun y => tV J.n (bv y)) lvq tvq vv (hI.js.later hWV) (hI.wm.later hWV) (by have := reds_take ha σ.length; have := HSZ.out.1; rw [List.length_append]; omega) (by have := tests_take ha; have := HSZ.out.2; rw [List.length_append, List.length_map]; omega) (fun y hy => by
    obtain ⟨h1, h2⟩ := tests_apart ha HND.out hy
    rw [hI.off y h1]
    exact HT.out y h2))
   have HQ := Lib.hid (And.intro ha (And.intro hWV hqm))
   have HB4 := Lib.hid (below_cell hWV hc4)
   have HLT := Lib.hid hlt
   have hqi : ((q : Nat) : Int) < ((m : Nat) : Int) := by omega
   obtain ⟨kn, hkn⟩ : ∃ kn, kidN J.l i q = kn := ⟨_, rfl⟩
   rw [hkn] at xk HADD
   have hl9 : (σ ++ ρ).length + (redE a).length ≤ 1000000 := by have := reds_take ha σ.length; have := HSZ.out.1; rw [List.length_append]; omega
   have HL9 := Lib.hid hl9
   subst e
   clear hI hc0 hc1 hc2 hc3 ha hWV hl1 hl9 hkn hqm c2 x4 c2W x4W x0
   go_wp2_with fail
   refine Late.drew [9] (S := fun V => V.cell? ⟨w.heap.size, 4, none⟩ = some (.slice K q c)) (by kernel_rfl) hc4 (fun hHeld => ?_)
   rw [hV] at hHeld ⊢
   refine ltOp 0 hHeld ?_
   refine ltOp 1 hHeld ?_
   refine ltOp 2 hHeld ?_
   refine ltOp 3 hHeld ?_
   refine ltOp 4 hHeld ?_
   refine ltCall 5 (fun Kt hKt => ?_)
   go_simp
   (go_at_call 82; refine HADD.out.mono ?_; rintro e w1 ⟨rfl, τ1, lv1, tv1, ρ1, j1, m1, r1, z1, f1, p1⟩)
   refine hKt.out _ _ ?_ (fun hT => ?_)
   ·(exact (World.cell?_of_block (a := ⟨w.heap.size, 4, none⟩) (f1.block w.heap.size (World.block_lt_of_cell? _ _ HB4.out) HA.out.1 HA.out.2.1 HI.out.l1 HI.out.t1)).trans HB4.out)
   clear hKt Kt hHeld
   have hHeld := hT
   clear hT
   try simp only [Act.put, tkA, tkB, tkC]
   obtain ⟨D, hD⟩ : ∃ D, (σ ++ ρ).length + (redE a).length - 1 = D := ⟨_, rfl⟩
   rw [hD]
   have f2 := (Fr.of_below HQ.out.2.1).trans f1
   obtain ⟨hrow, hbox⟩ := HI.out.kv f2 ⟨HA.out.1, HA.out.2.1⟩ HA.out.2.2.2
   have hal : Below w1.heap.size w1 (w1.alloc (.cells #[.int .i64 ((D : Nat) : Int)] 3)) := (Below.refl _ _).alloc (Nat.le_refl _) _
   have HK1 := Lib.hid (below_row hrow hal)
   have HX1 := Lib.hid (below_row hbox hal)
   have HN1 := Lib.hid (heap_alloc_new w1 (.cells #[.int .i64 ((D : Nat) : Int)] 3))
   refine ltCall 6 (fun Kt hKt => ?_)
   go_simp
   refine hKt.out _ _ ?_ (fun hT => ?_)
   ·(exact (box_at HX1.out).1)
   clear hKt Kt hHeld
   have hHeld := hT
   clear hT
   try simp only [Act.put, tkA, tkB, tkC]
   refine ltCall 7 (fun Kt hKt => ?_)
   (refine step_append_lies (w := w1.alloc (.cells #[.int .i64 ((D : Nat) : Int)] 3)) rfl (.tmp 56) (.tmp 61) 35 rfl lo 3 i1 _ 1 8 Tryz.underlying35 hi1 hy0 hy1 hy2 rfl (by decide) (.slice K q c) q _ (by rfl) HK1.out ⟨w1.heap.size, 0, none⟩ 1 1 [.int .i64 ((D : Nat) : Int)] (by rfl) rfl (World.news_of_block HN1.out) (by intro u hu; rw [List.mem_singleton.1 hu]; rfl) (by decide) (by have := HQ.out.2.2; have q : maxLen = 9223372036854775807 := rfl; omega) (by have := HLT.out; have := HSM.out; omega) (by have := m1.hb; have := hal.size; omega) _ rfl ?_; intro q' cap w3 hown hgr hq hlt)
   refine hKt.out _ _ ?_ (fun hT => ?_)
   ·(exact hgr.cell (box_at HX1.out).1 (fun e => absurd (HI.out.kw w.heap.size e.symm) (Nat.lt_irrefl _)))
   clear hKt Kt hHeld
   have hHeld := hT
   clear hT
   try simp only [Act.put, tkA, tkB, tkC]
   have hbx := own_keep HX1.out (w' := w3) (fun x hx => hgr.block x (World.ownsRow.lt HX1.out x hx).2 (fun e => by have hx : some w.heap.size = some x := hx; injection hx with hx; have := HI.out.kw _ e.symm; omega))
   obtain ⟨k4, y4⟩ := box_at hbx
   refine ltOp 8 hHeld ?_
   refine ltLast 9 (fun Kt hKt => ?_)
   go_simp
   refine hKt.out _ _ trivial (fun hT => ?_)
   clear hKt Kt hHeld
   have hHeld := hT
   clear hT
   try simp only [Act.put, tkA, tkB, tkC]
   refine wpAnyH_done (by kernel_rfl) ?_ _
   have HNX := Lib.hid (HI.out.next HQ.out.1 HA.out HLWW.out hD j1 m1 r1 z1 f2 (fun s hs b hb => by have := p1 s hs b hb; have := HQ.out.2.1.size; omega) hown hgr hq)
   obtain ⟨W4, hW4⟩ : ∃ W4, w3.setCell ⟨w.heap.size, 4, none⟩ (.slice (some ⟨q', 0, none⟩) (q + 1 : Nat) cap) = W4 := ⟨_, rfl⟩
   rw [hW4] at HNX ⊢
   clear hHeld k4 y4 hbx hown hgr hq hlt hrow hbox hal f2 f1 j1 m1 r1 z1 p1 hD hc4 hV
   go_wp2_with fail
   go_roundw
   case rel => exact ⟨q + 1, some ⟨q', 0, none⟩, cap, τ1, lv1, tv1, ρ ++ ρ1, by simp, HLT.out, HNX.out⟩
   case measure => (show m - (q + 1) < m - q; have := HLT.out; omega)
  ·obtain rfl : q = m := by omega
   have hxs : xs.take q = xs := List.take_of_length_le (by rw [HMX.out]; exact Nat.le_refl _)
   have hwm := hI.wm
   have hnd := hI.nodes
   have hrow := hI.row
   have hoff := hI.off
   rw [hxs] at hwm hnd hrow hoff
   have hl1 : ρ.length = (redsAt σ.length xs).length := by have := congrArg List.length hnd; rwa [List.length_map] at this
   have HP := Lib.hid (landPut J.bt lo gw lvq tvq vv (σ ++ ρ) _ kd 0 0 ⟨#[]⟩ (endsAt σ.length xs) K q c wr hwm (by rw [ends_len]; exact HMX.out) (show wr.ownsRow lo 3 1 (.slice K (endsAt σ.length xs).length c) (endsAt σ.length xs).length _ from by rw [ends_len, HMX.out]; exact hrow) (show (Value.slice K (endsAt σ.length xs).length c).ownBlock ≠ some gw from by rw [ends_len, HMX.out]; exact hI.kg) (by have := HSZ.out.1; rw [List.length_append]; omega))
   have HZ := Lib.hid (And.intro hnd (And.intro hoff hl1))
   clear hI hxs hwm hnd hrow hoff hl1 c2 x4 c2W x4W x0
   go_wp2_with fail
   refine HP.out.mono ?_
   rintro e w8 ⟨rfl, lv8, hM8, hF8, hL8⟩
   have HM8 := Lib.hid hM8
   have HJ8 := Lib.hid (HI.out.js.under hL8 HA.out.2.2.1 HA.out.2.2.2)
   have HF8 := Lib.hid (HI.out.fr.trans hF8)
   clear hM8 hF8 hL8 HP hc0 hc1 hc2 hc3 hc4
   go_wp2_with fail
   go_ret
   refine ⟨?_, τq, lv8, tvq, ρ ++ [(⟨kd, ⟨#[]⟩, 0, 0, endsAt σ.length xs⟩, K, c)], HJ8.out, ?_, ?_, fun z hz => ?_, HF8.out, fun s hs b hb => ?_⟩
   ·have e : ((σ.length + (redE x).length - 1 : Nat) : Int) = ((σ.length : Nat) : Int) + ((ρ.length : Nat) : Int) := by
     have h1 := HEND.out.2.2
     have h2 := HZ.out.2.2
     omega
    rw [e]
    rfl
   ·have h9 := HM8.out
    rw [List.append_assoc] at h9
    rw [HEND.out.2.1]
    exact h9
   ·rw [HEND.out.1, List.map_append, HZ.out.1]
    rfl
   ·rw [HEND.out.2.1] at hz
    exact HZ.out.2.1 z hz
   ·rcases List.mem_append.1 hs with hs | hs
    ·exact HI.out.new s hs b hb
    ·rw [List.mem_singleton.1 hs] at hb
     have hb : (Value.slice K (endsAt σ.length xs).length c).ownBlock = some b := hb
     rw [ends_len, HMX.out] at hb
     exact Nat.le_of_lt (HI.out.kw b hb)
end Go.Proofs.YtdbgaccnejffpaaGreatDoor.Sat
