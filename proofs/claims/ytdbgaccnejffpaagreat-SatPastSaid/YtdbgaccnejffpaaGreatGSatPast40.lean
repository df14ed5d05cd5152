/-
  The walks of the landed package trace: own, first; clones. By an AI agent.
  The walks of the landed package trace: Cut, Add. By an AI agent.
-/
import Derived.Test.YtdbgaccnejffpaaGreatGSatPast1
import Derived.Test.YtdbgaccnejffpaaGreatGSatPast20
import Derived.Test.YtdbgaccnejffpaaGreatGSatPast39
import Derived.Deep.AppendLies
namespace Go.Proofs.YtdbgaccnejffpaaGreat.Trace
open Go.RowKit Go.Proofs.YtdbgaccnejffpaaGreat.Ints Go.Proofs.YtdbgaccnejffpaaGreat.Mem

/-! ### what may be is small -/
theorem name_len {s : List UInt8} (h : Lex.nameS s = true) : s.length ≤ 16 := by
 rcases Nat.lt_or_ge 16 s.length with h1 | h1
 · rw [Lex.name_not (.inr h1)] at h
   cases h
 · exact h1
theorem may_sizes {t : Tr} (h : mayT t = true) : ∀ s ∈ t.names, s.length ≤ 16 := fun s hs => by
 have h1 := ((namesOk_iff _).1 ((mayT_iff t).1 h).1).2
 obtain ⟨i, hi, e⟩ := List.getElem_of_mem hs
 have h2 := (h1 i hi).1
 rw [List.getD, List.getElem?_eq_getElem hi, Option.getD_some, e] at h2
 exact name_len h2
theorem ids_up {l : List Int} {p : Int} (h : idsOk l p = true) : ∀ i, i < l.length → (i : Int) ≤ l.getD i 0 := by
 rw [idsOk_iff] at h
 intro i
 induction i with
 | zero => intro hi; exact (h 0 hi).1
 | succ i ih =>
   intro hi
   have h1 := ih (by omega)
   have h2 := (h (i + 1) hi).2.2 (by omega)
   rw [Nat.add_sub_cancel] at h2
   omega
theorem ids_short {l : List Int} {p : Int} (h : idsOk l p = true) : l.length = 0 ∨ (l.length : Int) ≤ p := by
 rcases Nat.eq_zero_or_pos l.length with h0 | h0
 · exact .inl h0
 · have h1 := ids_up h (l.length - 1) (by omega)
   have h2 := ((idsOk_iff _ _).1 h (l.length - 1) (by omega)).2.1
   omega
theorem may_ids {t : Tr} (h : mayT t = true) : ∀ x ∈ t.events, x.ids.length ≤ 64 := fun x hx => by
 have h1 := (mayT_iff t).1 h
 have h64 := ((namesOk_iff _).1 h1.1).1
 obtain ⟨i, hi, e⟩ := List.getElem_of_mem hx
 have h2 := ((evsOk_iff _ _).1 h1.2 i hi).1
 rw [List.getD, List.getElem?_eq_getElem hi, Option.getD_some, e] at h2
 have := ids_short h2
 omega

/-! ### clones -/
theorem cloneStr (s : ByteArray) (w : World) (hlim : s.size ≤ 281474976710656) :
   Calls Tryz.prog 53 #[.string s] w fun e w' => e = .returned (.string s) ∧ Below w.heap.size w w' := by
 have HC := Lib.hid (fun W => Tryz.stringslite_Clone s W hlim)
 clear hlim
 go_enter Tryz.func53, Tryz.ntmps53
 go_wp2_with (go_at_call 93; refine (HC.out _).mono ?_; rintro e w1 ⟨rfl, hb1⟩)
 go_ret
 exact ⟨rfl, hb1⟩
theorem cloneInts (K : Option Addr) (n c : Nat) (l : List Int) (w : World) (h : Rd .i64 w K n l) (hn : n ≤ 64) :
   Calls Tryz.prog 94 #[.slice K n c] w fun e w' => ∃ K' c', e = .returned (.slice K' n c') ∧ Rd .i64 w' K' n l ∧ n ≤ c' ∧ c' ≤ maxLen ∧ Below w.heap.size w w' ∧ ∀ a, K' = some a → w.heap.size ≤ a.block := by
 have key : ∀ (v' : Value) (w' : World), w'.ownsRow w.heap.size 3 1 v' n (l.map (Value.int .i64)) → Below w.heap.size w w' →
     ∃ K' c', Ending.returned v' = .returned (.slice K' n c') ∧ Rd .i64 w' K' n l ∧ n ≤ c' ∧ c' ≤ maxLen ∧ Below w.heap.size w w' ∧ ∀ a, K' = some a → w.heap.size ≤ a.block := fun v' w' ho hb => by
   obtain ⟨A, c', rfl, h1, h2, -, h4⟩ := own_slice ho
   exact ⟨A, c', rfl, Rd.own ho h.all, h1, h2, hb, fun a e => (h4 a e).1⟩
 cases K with
 | none =>
   have hn0 : n = 0 := by
     rcases Nat.eq_zero_or_pos n with h' | h'
     · exact h'
     · obtain ⟨b, off, e, -⟩ := h.cell h'
       cases e
   subst hn0
   have : l = [] := List.eq_nil_of_length_eq_zero h.len
   subst this
   refine (Tryz.slices_Clone_int_nil 0 c w).mono ?_
   rintro e w' ⟨rfl, rfl⟩
   exact ⟨none, 0, rfl, Rd.nil _ _ _, Nat.le_refl _, by decide, Below.refl _ _, fun a e => by cases e⟩
 | some ad =>
   rcases Nat.eq_zero_or_pos n with hn0 | hp
   · subst hn0
     have : l = [] := List.eq_nil_of_length_eq_zero h.len
     subst this
     refine (Tryz.slices_Clone_int_zero ad c w).mono ?_
     rintro e w' ⟨v', rfl, h1, -, h2⟩
     exact key v' w' h1 h2
   · obtain ⟨b, off, e, hc⟩ := h.cell hp
     injection e with e
     subst e
     refine (Tryz.slices_Clone_int b off n c l w (by rw [h.len]; exact Nat.le_refl _) (by omega) (fun j hj => by have := hc j (by rw [← h.len]; exact hj); simpa [List.getD] using this)).mono ?_
     rintro e w' ⟨v', rfl, h1, -, h2⟩
     rw [List.take_of_length_le (by rw [h.len]; exact Nat.le_refl _)] at h1
     exact key v' w' h1 h2

def GotEv (w : World) (x : Ev) (e : Ending) (w' : World) : Prop :=
 ∃ K c, e = .returned (.agg #[.int .u64 x.time, .slice K x.ids.length c]) ∧ EvOk w' x K c ∧ Below w.heap.size w w' ∧ ∀ a, K = some a → w.heap.size ≤ a.block

set_option maxHeartbeats 4000000 in
set_option maxRecDepth 100000 in
theorem landOwn (x : Ev) (K : Option Addr) (c : Nat) (w : World) (hx : EvOk w x K c) (hl : x.ids.length ≤ 64) :
   Calls Tryz.prog 54 #[.agg #[.int .u64 x.time, .slice K x.ids.length c]] w (GotEv w x) := by
 have HC := Lib.hid (fun W (hb : Below w.heap.size w W) => cloneInts K x.ids.length c x.ids W (hx.2.1.below hb) hl)
 have HW := Lib.hid hx.1
 obtain ⟨tm, htm⟩ : ∃ tm, x.time = tm := ⟨_, rfl⟩
 obtain ⟨q, hq⟩ : ∃ q, x.ids.length = q := ⟨_, rfl⟩
 rw [htm, hq]
 rw [hq] at HC
 have HTM := Lib.hid htm
 have HQ := Lib.hid hq
 clear hx hl htm hq
 go_enter Tryz.func54, Tryz.ntmps54
 have b0 := Blk.new w #[.int .u64 tm, .slice K q c] 31 [.int .u64 tm, .slice K q c] rfl
 have b1 := b0.alloc (.cells #[.int .u64 0, .slice none 0 0] 31)
 have r0 := Blk.new (w.alloc (.cells #[.int .u64 tm, .slice K q c] 31)) #[.int .u64 0, .slice none 0 0] 31 [.int .u64 0, .slice none 0 0] rfl
 have e1 : (w.alloc (.cells #[.int .u64 tm, .slice K q c] 31)).heap.size = w.heap.size + 1 := by simp
 rw [e1] at r0
 obtain ⟨V, hV⟩ : ∃ V, V = (((w.alloc (.cells #[.int .u64 tm, .slice K q c] 31)).alloc (.cells #[.int .u64 0, .slice none 0 0] 31))).drew := ⟨_, rfl⟩
 have HB := Lib.hid (show Blk V w.heap.size [.int .u64 tm, .slice K q c] by rw [hV]; exact b1)
 have HR := Lib.hid (show Blk V (w.heap.size + 1) [.int .u64 0, .slice none 0 0] by rw [hV]; exact r0)
 have HV := Lib.hid (show Below w.heap.size w V by rw [hV]; exact (((Below.refl _ w).alloc (Nat.le_refl _) _).alloc (by simp) _).drew)
 clear b0 b1 r0 e1
 go_wp2
 refine wp_region_held_drew (S := fun W => W.cell? ⟨w.heap.size, 0, none⟩ = some (.int .u64 tm) ∧ W.cell? ⟨w.heap.size, 1, none⟩ = some (.slice K q c)) (by kernel_rfl) (by rw [← hV]; exact ⟨HB.out.cell 0 rfl, HB.out.cell 1 rfl⟩) (fun hHeld => ?_)
 rw [← hV] at hHeld ⊢
 clear hV
 refine tkOp 0 hHeld ?_
 refine tkOp 1 hHeld ?_
 refine tkOp 2 hHeld ?_
 refine tkOp 3 hHeld ?_
 refine tkCall 4 (fun Kt hKt => ?_)
 go_simp
 (go_at_call 94; refine (HC.out V HV.out).mono ?_; rintro e w1 ⟨K1, c1, rfl, hk1, hk2, hk3, hb1, hk4⟩; have q1 := HB.out.later hb1; have q2 := HR.out.later hb1; have z0 := q2.cell 0 rfl; have z1 := q2.cell 1 rfl; have z2 := q2.fz 0 rfl; have z3 := q2.fz 1 rfl)
 refine hKt.out _ _ ?_ (fun hT => ?_)
 · (exact ⟨q1.cell 0 rfl, q1.cell 1 rfl⟩)
 clear hKt Kt hHeld
 have hHeld := hT
 clear hT
 try simp only [Act.put, tkA, tkB, tkC]
 refine tkOp 5 hHeld ?_
 refine tkCall 6 (fun Kt hKt => ?_)
 go_simp
 refine hKt.out _ _ ?_ (fun hT => ?_)
 · (exact ⟨((q1.other _ _ (by simp)).other _ _ (by simp)).cell 0 rfl, ((q1.other _ _ (by simp)).other _ _ (by simp)).cell 1 rfl⟩)
 clear hKt Kt hHeld
 have hHeld := hT
 clear hT
 try simp only [Act.put, tkA, tkB, tkC]
 refine wpAnyH_done (by kernel_rfl) ?_ _
 clear hHeld
 go_wp2
 refine bodyPost_ret (v := .agg #[.int .u64 tm, .slice K1 q c1]) (by simp [results, Tryz.results54, go_sem, z0, z1]) rfl ?_
 have hlt := HR.out.1
 refine ⟨K1, c1, by rw [HTM.out, HQ.out], ⟨HW.out, ?_, by rw [HQ.out]; exact hk2, hk3⟩, ?_, fun a e => Nat.le_trans HV.out.size (hk4 a e)⟩
 · rw [HQ.out]
   refine hk1.keep fun p u hp hc => ?_
   rw [set2_cell w1 (w.heap.size + 1) _ _ p (by
     obtain ⟨a, ha, hb⟩ := Option.map_eq_some_iff.1 hp
     have := hk4 a ha
     omega)]
   exact hc
 · exact ((HV.out.trans (hb1.mono HV.out.size)).setCell (p := ⟨w.heap.size + 1, 0, none⟩) (by show w.heap.size ≤ w.heap.size + 1; omega) _).setCell (p := ⟨w.heap.size + 1, 1, none⟩) (by show w.heap.size ≤ w.heap.size + 1; omega) _

/-! ### first -/
theorem infoStr : (Tryz.prog.info? 9).map (fun i => (i.zero, i.size, i.bytes)) = some (some (.string { data := #[] }), 1, 16) := by kernel_rfl
abbrev wF0 (w : World) (NA : Option Addr) (nn nc : Nat) (EA : Option Addr) (ne ec : Nat) : World := (boxT w NA nn nc EA ne ec).alloc (.cells #[.slice none 0 0, .slice none 0 0] 25)
theorem wF0_size (w : World) (NA : Option Addr) (nn nc : Nat) (EA : Option Addr) (ne ec : Nat) : (wF0 w NA nn nc EA ne ec).heap.size = w.heap.size + 2 := by simp [wF0, boxT]
theorem wF0_below {w W : World} {NA : Option Addr} {nn nc : Nat} {EA : Option Addr} {ne ec : Nat} (hb : Below (w.heap.size + 2) (wF0 w NA nn nc EA ne ec) W) : Below w.heap.size w W :=
 (((Below.refl _ w).alloc (Nat.le_refl _) _).alloc (by simp) _).trans (hb.mono (by omega))
theorem wF0_boxes {w W : World} {NA : Option Addr} {nn nc : Nat} {EA : Option Addr} {ne ec : Nat} (hb : Below (w.heap.size + 2) (wF0 w NA nn nc EA ne ec) W) :
   Blk W w.heap.size [.slice NA nn nc, .slice EA ne ec] ∧ Blk W (w.heap.size + 1) [.slice none 0 0, .slice none 0 0] := by
 have h0 := (Blk.new w #[.slice NA nn nc, .slice EA ne ec] 25 _ rfl).alloc (.cells #[.slice none 0 0, .slice none 0 0] 25)
 have h1 := Blk.new (boxT w NA nn nc EA ne ec) #[.slice none 0 0, .slice none 0 0] 25 _ rfl
 have e : (boxT w NA nn nc EA ne ec).heap.size = w.heap.size + 1 := by simp [boxT]
 rw [e] at h1
 exact ⟨h0.below hb (by omega), h1.below hb (by omega)⟩
theorem row_set {W : World} {base : Nat} {e : TypeId} {size : Nat} {v : Value} {n : Nat} {xs : List Value} {g k : Nat} {u : Value} (h : W.ownsRow base e size v n xs) (hg : g < base) : (W.setCell ⟨g, k, none⟩ u).ownsRow base e size v n xs :=
 h.kept (row := some g) ⟨rfl, rfl, rfl, by simp, fun i _ hne => Below.heap_setCell W ⟨g, k, none⟩ u i (fun e => hne (by rw [e]))⟩ (.inr fun e => by have := (h.lt g e).1; omega)
def GotFirst (w : World) (t : Tr) (e : Ending) (w' : World) : Prop :=
 ∃ vN v σ, e = .returned (.agg #[vN, v]) ∧ w'.ownsRow (w.heap.size + 3) 9 1 vN t.names.length (t.names.map strS) ∧ OwnEvs (New3 w) w' (w.heap.size + 3) v σ ∧ σ.map (·.1) = t.events ∧
   (vN.ownBlock = none ∨ vN.ownBlock ≠ v.ownBlock) ∧ Below w.heap.size w w' ∧ w.heap.size + 3 ≤ w'.heap.size

set_option maxHeartbeats 16000000 in
set_option maxRecDepth 100000 in
theorem landFirst (NA : Option Addr) (nn nc : Nat) (EA : Option Addr) (ne ec m : Nat) (t : Tr) (w : World) (h : TrOk Any w NA nn nc EA ne ec t) (hmay : mayT t = true) (hm : m ≤ ne) (hs : ne ≤ 1048576) :
   Calls Tryz.prog 25 #[.agg #[.slice NA nn nc, .slice EA ne ec], .int .i64 (m : Int)] w (GotFirst w ⟨t.names, t.events.take m⟩) := by
 obtain ⟨iE, hiE, hz0, hz1, hz2⟩ := info_parts infoEvent
 obtain ⟨iS, hiS, hy0, hy1, hy2⟩ := info_parts infoStr
 have hnn : nn ≤ 64 := by rw [← h.nlen]; exact ((namesOk_iff _).1 ((mayT_iff t).1 hmay).1).1
 have hnni : (nn : Int) ≤ 64 := by omega
 have hmi : (m : Int) ≤ 1048576 := by omega
 have hm0 : (0 : Int) ≤ (m : Int) := by omega
 have hme : (m : Int) ≤ (ec : Int) := by have := h.ecap.1; omega
 have hsl := slice_upto (P := Tryz.prog) 23 typeEvents 2 sizeElemEvents EA ne ec m (by have := h.ecap.1; omega)
 have HD := Lib.hid h
 have HSZ := Lib.hid (may_sizes hmay)
 have HID := Lib.hid (may_ids hmay)
 have HM := Lib.hid hm
 have HS := Lib.hid hs
 have HN64 := Lib.hid hnn
 have HNL := Lib.hid h.nlen
 have HEL := Lib.hid h.elen
 clear h hmay hm hs hnn
 go_enter Tryz.func25, Tryz.ntmps25
 obtain ⟨t0, t1⟩ := boxT_at (Below.refl (w.heap.size + 1) (boxT w NA nn nc EA ne ec))
 go_wp2
 clear t0 t1
 go_loopw [14] (fun i wr => ∃ (k : Nat) (vN : Value), k ≤ nn ∧ i = .int .i64 k ∧ Hid (wr.ownsRow (w.heap.size + 3) 9 1 vN k ((t.names.take k).map strS) ∧ Blk wr (w.heap.size + 1 + 1) [vN, .slice none 0 0] ∧ Below (w.heap.size + 2) (wF0 w NA nn nc EA ne ec) wr)) (fun i _ => nn - (intOf i).toNat)
 case atStart => exact ⟨0, .slice none 0 0, Nat.zero_le _, rfl, World.ownsRow_nil _ _ _ _, by
   have := Blk.new (wF0 w NA nn nc EA ne ec) #[.slice none 0 0, .slice none 0 0] 25 _ rfl
   rw [wF0_size] at this
   exact this, (Below.refl _ _).alloc (by rw [wF0_size]; omega) _⟩
 case round =>
   obtain ⟨k, vN, hk, rfl, HR⟩ := hrel
   by_cases hkn : k < nn
   · have hkn' : (k : Int) < (nn : Int) := by omega
     have hlen : k < t.names.length := by rw [HNL.out]; exact hkn
     have hstr := HD.out.names.below (wF0_below HR.out.2.2)
     obtain ⟨b, off, e, hc⟩ := hstr (by omega)
     have x0 := strs_at hc hlen
     have hsz := HSZ.out (t.names.getD k []) (by simp [List.getD, hlen])
     obtain ⟨s, hse⟩ : ∃ s : ByteArray, s = ⟨(t.names.getD k []).toArray⟩ := ⟨_, rfl⟩
     have hsd : strS (t.names.getD k []) = .string s := by rw [hse]; rfl
     rw [← hse] at x0
     have hs16 : s.size ≤ 281474976710656 := by
       have : s.size = (t.names.getD k []).length := by rw [hse]; rfl
       omega
     have HCL := Lib.hid (fun W => cloneStr s W hs16)
     have hnext : (t.names.take (k + 1)).map strS = (t.names.take k).map strS ++ [.string s] := by
       rw [List.take_succ_eq_append_getElem hlen, List.map_append, ← hsd]
       simp [List.getD, hlen]
     have HNX := Lib.hid hnext
     have HKN := Lib.hid hkn
     subst e
     clear hlen hstr hc hsz hse hsd hs16 hnext hkn
     go_wp2
     obtain ⟨V, hV⟩ : ∃ V, V = wr.drew := ⟨_, rfl⟩
     have HROW := Lib.hid (show V.ownsRow (w.heap.size + 3) 9 1 vN k ((t.names.take k).map strS) by rw [hV]; exact HR.out.1)
     have HBK := Lib.hid (show Blk V (w.heap.size + 1 + 1) [vN, .slice none 0 0] by rw [hV]; exact HR.out.2.1)
     have HBW := Lib.hid (show Below (w.heap.size + 2) (wF0 w (some ⟨b, off, none⟩) nn nc EA ne ec) V by rw [hV]; exact HR.out.2.2.drew)
     refine Late.drew [5] (S := fun W => W.cell? ⟨w.heap.size + 1 + 1, 0, none⟩ = some vN) (by kernel_rfl) (by rw [← hV]; exact HBK.out.cell 0 rfl) (fun hHeld => ?_)
     rw [← hV] at hHeld ⊢
     clear hV HR x0
     refine ltOp 0 hHeld ?_
     refine ltOp 1 hHeld ?_
     refine ltOp 2 hHeld ?_
     refine ltCall 3 (fun Kt hKt => ?_)
     go_simp
     (go_at_call 53; refine (HCL.out V).mono ?_; rintro e W3 ⟨rfl, hb3⟩; have bk3 := HBK.out.later hb3)
     refine hKt.out _ _ ?_ (fun hT => ?_)
     · (exact bk3.cell 0 rfl)
     clear hKt Kt hHeld
     have hHeld := hT
     clear hT
     try simp only [Act.put, tkA, tkB, tkC]
     have bk4 := bk3.alloc (.cells #[.string s] 9)
     refine ltCall 4 (fun Kt hKt => ?_)
     go_simp
     refine hKt.out _ _ ?_ (fun hT => ?_)
     · (exact bk4.cell 0 rfl)
     clear hKt Kt hHeld
     have hHeld := hT
     clear hT
     try simp only [Act.put, tkA, tkB, tkC]
     have hV3 := HBK.out.1
     refine ltLast 5 (fun Kt hKt => ?_)
     (refine step_append_lies (w := W3.alloc (.cells #[.string s] 9)) rfl (.tmp 19) (.tmp 22) 22 rfl (w.heap.size + 3) 9 iS _ 1 16 Tryz.underlying22 hiS hy0 hy1 hy2 rfl (by decide) vN k _ (by rfl) ((below_row HROW.out hb3).alloc _) ⟨W3.heap.size, 0, none⟩ 1 1 [.string s] (by rfl) rfl (World.news_of_block (heap_alloc_new W3 _)) (fun u hu => by rw [List.mem_singleton.1 hu]; rfl) (by decide) (by have := HKN.out; have := HN64.out; have : maxLen = 9223372036854775807 := rfl; omega) (by have := HKN.out; have := HN64.out; omega) (Nat.le_trans hV3 (Nat.le_trans hb3.size (size_one _ _))) _ rfl ?_; intro g cap W5 own5 gr5 at5 lt5)
     refine hKt.out _ _ trivial (fun hT => ?_)
     clear hKt Kt hHeld
     have hHeld := hT
     clear hT
     try simp only [Act.put, tkA, tkB, tkC]
     have bk5 := bk4.grown gr5 (fun e => by have := (HROW.out.lt _ e.symm).1; omega)
     have c50 := bk5.cell 0 rfl
     have f50 := bk5.fz 0 rfl
     refine tkOp 6 hHeld ?_
     refine tkCall 7 (fun Kt hKt => ?_)
     go_simp
     refine hKt.out _ _ ?_ (fun hT => ?_)
     · (trivial)
     clear hKt Kt hHeld
     have hHeld := hT
     clear hT
     try simp only [Act.put, tkA, tkB, tkC]
     refine wpAnyH_done (by kernel_rfl) ?_ _
     clear hHeld c50 f50
     go_wp2
     go_roundw
     case rel => exact ⟨k + 1, _, by omega, by go_num, ⟨by rw [HNX.out]; exact row_set own5 (by omega), bk5.set 0 _ (by simp), (((HBW.out.trans (hb3.mono (by omega))).alloc (Nat.le_trans (by omega) hb3.size) _).grown gr5 (Nat.le_trans (by omega) (Nat.le_trans hb3.size (size_one _ _))) (fun z hz => by have := (HROW.out.lt z hz).1; omega)).setCell (p := ⟨w.heap.size + 1 + 1, 0, none⟩) (Nat.le_refl _) _⟩⟩
     case measure => simp [intOf]; omega
   · have hge : decide ((k : Int) < (nn : Int)) = false := by simp; omega
     obtain rfl : k = nn := by omega
     have hall : t.names.take k = t.names := List.take_of_length_le (by rw [HNL.out]; exact Nat.le_refl _)
     have HR1 := Lib.hid (show wr.ownsRow (w.heap.size + 3) 9 1 vN k (t.names.map strS) by have := HR.out.1; rwa [hall] at this)
     have HR2 := Lib.hid HR.out.2
     have bx := (wF0_boxes HR.out.2.2).1
     have c0 := bx.cell 0 rfl
     have c1 := bx.cell 1 rfl
     clear HR hall bx
     obtain ⟨w1, hw1⟩ : ∃ w1, w1 = wr := ⟨_, rfl⟩
     subst hw1
     go_wp2
     clear c0 c1
     go_loopw [31] (fun i wr => ∃ (j : Nat) (v : Value) (σ : List SEv), j ≤ m ∧ i = .int .i64 j ∧ Hid (OwnEvs (New3 w) wr (w.heap.size + 3) v σ ∧ σ.map (·.1) = t.events.take j ∧ wr.ownsRow (w.heap.size + 3) 9 1 vN k (t.names.map strS) ∧ (vN.ownBlock = none ∨ vN.ownBlock ≠ v.ownBlock) ∧ Blk wr (w.heap.size + 1 + 1) [vN, v] ∧ Below (w.heap.size + 2) (wF0 w NA k nc EA ne ec) wr)) (fun i _ => m - (intOf i).toNat)
     case atStart => exact ⟨0, .slice none 0 0, [], Nat.zero_le _, rfl, OwnEvs.nil _ _ _, by simp, HR1.out, by
       by_cases e : vN.ownBlock = none
       · exact .inl e
       · exact .inr e, HR2.out.1, HR2.out.2⟩
     case round =>
       obtain ⟨j, v, σ, hj, rfl, HR⟩ := hrel
       clear HR1 HR2
       by_cases hjm : j < m
       · have hjm' : (j : Int) < (m : Int) := by omega
         have hj0 : (0 : Int) ≤ (j : Int) := by omega
         have hlen : j < t.events.length := by have := HEL.out; have := HM.out; omega
         obtain ⟨b, off, K, c, e, x0, x1, hx⟩ := (HD.out.evs.below (wF0_below HR.out.2.2.2.2.2)).kids hlen
         have hid64 := HID.out (t.events.getD j noEv) (by simp [List.getD, hlen])
         have hnext : t.events.take (j + 1) = t.events.take j ++ [t.events.getD j noEv] := by
           rw [List.take_succ_eq_append_getElem hlen]
           simp [List.getD, hlen]
         obtain ⟨x, hxe⟩ : ∃ x, t.events.getD j noEv = x := ⟨_, rfl⟩
         rw [hxe] at x0 x1 hx hid64 hnext
         have HNX := Lib.hid hnext
         have HX := Lib.hid hx
         have HI64 := Lib.hid hid64
         obtain ⟨tm, htm⟩ : ∃ tm, x.time = tm := ⟨_, rfl⟩
         obtain ⟨q, hq⟩ : ∃ q, x.ids.length = q := ⟨_, rfl⟩
         rw [htm] at x0
         rw [hq] at x1
         have HTM := Lib.hid htm
         have HQ := Lib.hid hq
         have HJM := Lib.hid hjm
         subst e
         clear hlen hid64 hnext hxe hx htm hq hjm
         go_wp2
         clear x0 x1
         obtain ⟨V, hV⟩ : ∃ V, V = (wr.alloc (.cells #[.int .u64 tm, .slice K q c] 31)).drew := ⟨_, rfl⟩
         have hVa : Below wr.heap.size wr V := by rw [hV]; exact ((Below.refl _ wr).alloc (Nat.le_refl _) _).drew
         have HROW := Lib.hid (And.intro (HR.out.1.below hVa) HR.out.2.1)
         have HNM := Lib.hid (And.intro (below_row HR.out.2.2.1 hVa) HR.out.2.2.2.1)
         have HBK := Lib.hid (HR.out.2.2.2.2.1.later hVa)
         have hs2 := HR.out.2.2.2.2.1.1
         have HBX := Lib.hid (show Blk V wr.heap.size [.int .u64 tm, .slice K q c] by rw [hV]; exact Blk.new wr #[.int .u64 tm, .slice K q c] 31 _ rfl)
         have HBW := Lib.hid (HR.out.2.2.2.2.2.trans (hVa.mono (by omega)))
         have HXV := Lib.hid (HX.out.below hVa)
         have HOWN := Lib.hid (landOwn x K c V HXV.out HI64.out)
         rw [HTM.out, HQ.out] at HOWN
         refine Late.drew [5] (S := fun W => W.cell? ⟨w.heap.size + 1 + 1, 1, none⟩ = some v ∧ W.cell? ⟨wr.heap.size, 0, none⟩ = some (.int .u64 tm) ∧ W.cell? ⟨wr.heap.size, 1, none⟩ = some (.slice K q c)) (by kernel_rfl) (by rw [← hV]; exact ⟨HBK.out.cell 1 rfl, HBX.out.cell 0 rfl, HBX.out.cell 1 rfl⟩) (fun hHeld => ?_)
         rw [← hV] at hHeld ⊢
         clear hV HR hVa hs2
         refine ltOp 0 hHeld ?_
         refine ltOp 1 hHeld ?_
         refine ltOp 2 hHeld ?_
         refine ltCall 3 (fun Kt hKt => ?_)
         go_simp
         (go_at_call 54; refine HOWN.out.mono ?_; rintro e W3 ⟨K3, c3, rfl, hx3, hb3, hn3⟩; rw [HTM.out, HQ.out]; have bk3 := HBK.out.later hb3; have bx3 := HBX.out.later hb3)
         refine hKt.out _ _ ?_ (fun hT => ?_)
         · (exact ⟨bk3.cell 1 rfl, bx3.cell 0 rfl, bx3.cell 1 rfl⟩)
         clear hKt Kt hHeld
         have hHeld := hT
         clear hT
         try simp only [Act.put, tkA, tkB, tkC]
         have bk4 := bk3.alloc (.cells #[.int .u64 tm, .slice K3 q c3] 31)
         have bx4 := bx3.alloc (.cells #[.int .u64 tm, .slice K3 q c3] 31)
         refine ltCall 4 (fun Kt hKt => ?_)
         go_simp
         refine hKt.out _ _ ?_ (fun hT => ?_)
         · (exact ⟨bk4.cell 1 rfl, bx4.cell 0 rfl, bx4.cell 1 rfl⟩)
         clear hKt Kt hHeld
         have hHeld := hT
         clear hT
         try simp only [Act.put, tkA, tkB, tkC]
         have hV3 := HBK.out.1
         have hblk : (W3.alloc (.cells #[.int .u64 tm, .slice K3 q c3] 31)).heap[W3.heap.size]? = some (.cells #[.int .u64 x.time, .slice K3 x.ids.length c3] 31 (0, 0)) := by
           rw [HTM.out, HQ.out]
           exact heap_alloc_new W3 _
         have hlt := HROW.out.1.1.lt
         have ki := box_evs (S := fun b => New3 w b ∧ some b ≠ v.ownBlock) hblk (hx3.below ((Below.refl _ W3).alloc (Nat.le_refl _) _)) ⟨by have := hb3.size; show _ ≤ _; omega, fun e => by have := (hlt _ e.symm).2; have := hb3.size; omega⟩ (fun a e _ => ⟨by have := hn3 a e; show _ ≤ _; omega, fun e2 => by have := (hlt _ e2.symm).2; have := hn3 a e; omega⟩)
         have hσ : σ.length ≤ 1048576 := by
           have h1 := congrArg List.length HROW.out.2
           rw [List.length_map, List.length_take] at h1
           have := HJM.out
           have := HM.out
           have := HS.out
           omega
         refine ltLast 5 (fun Kt hKt => ?_)
         (refine step_append_evs rfl (.tmp 36) (.tmp 39) 23 rfl (w.heap.size + 3) iE _ Tryz.underlying23 hiE hz0 hz1 hz2 rfl _ _ (by rfl) (New3 w) ((HROW.out.1.below hb3).below ((Below.refl _ W3).alloc (Nat.le_refl _) _)) _ 1 _ [x] (by rfl) (by rfl) ki (by omega) (Nat.le_trans hV3 (Nat.le_trans hb3.size (size_one _ _))) ?_; intro v5 W5 σ5 e5 own5 gr5 at5)
         refine hKt.out _ _ trivial (fun hT => ?_)
         clear hKt Kt hHeld
         have hHeld := hT
         clear hT
         try simp only [Act.put, tkA, tkB, tkC]
         have bk5 := bk4.grown gr5 (fun e => by have := (hlt _ e.symm).1; omega)
         have hnm5 := ((below_row HNM.out.1 hb3).alloc (.cells #[.int .u64 tm, .slice K3 q c3] 31)).kept gr5 HNM.out.2
         have hne5 : vN.ownBlock = none ∨ vN.ownBlock ≠ v5.ownBlock := by
           rcases at5 with e | e
           · rw [e]; exact HNM.out.2
           · rw [e]
             refine .inr fun e2 => ?_
             have h1 := (HNM.out.1.lt _ e2).2
             have h2 := hb3.size
             simp at h1
             omega
         obtain ⟨A5, c5, ev5, -⟩ := own_sliceN own5.1
         obtain ⟨n5, hn5⟩ : ∃ n5, (σ ++ σ5).length = n5 := ⟨_, rfl⟩
         rw [hn5] at ev5
         subst ev5
         have c51 := bk5.cell 1 rfl
         have f51 := bk5.fz 1 rfl
         refine tkOp 6 hHeld ?_
         refine tkCall 7 (fun Kt hKt => ?_)
         go_simp
         refine hKt.out _ _ ?_ (fun hT => ?_)
         · (trivial)
         clear hKt Kt hHeld
         have hHeld := hT
         clear hT
         try simp only [Act.put, tkA, tkB, tkC]
         refine wpAnyH_done (by kernel_rfl) ?_ _
         clear hHeld c51 f51
         go_wp2
         go_roundw
         case rel => exact ⟨j + 1, _, σ ++ σ5, by have := HJM.out; omega, by go_num, ⟨own_set own5 (by omega), by rw [List.map_append, e5, HROW.out.2, HNX.out], row_set hnm5 (by omega), hne5, bk5.set 1 _ (by simp), (((HBW.out.trans (hb3.mono (by omega))).alloc (Nat.le_trans (by omega) hb3.size) _).grown gr5 (Nat.le_trans (by omega) (Nat.le_trans hb3.size (size_one _ _))) (fun z hz => by have := (hlt z hz).1; omega)).setCell (p := ⟨w.heap.size + 1 + 1, 1, none⟩) (Nat.le_refl _) _⟩⟩
         case measure => simp [intOf]; omega
       · have hge2 : decide ((j : Int) < (m : Int)) = false := by simp; omega
         obtain rfl : j = m := by omega
         obtain ⟨h1, h2, h3, h4, h5, h6⟩ := HR.out
         obtain ⟨A5, c5, rfl, -⟩ := own_sliceN h1.1
         obtain ⟨A6, c6, rfl, -⟩ := own_sliceN h3
         obtain ⟨n5, hn5⟩ : ∃ n5, σ.length = n5 := ⟨_, rfl⟩
         rw [hn5] at h1 h4 h5
         have hr := (wF0_boxes h6).2
         have c0 := h5.cell 0 rfl
         have c1 := h5.cell 1 rfl
         have r0 := hr.cell 0 rfl
         have r1 := hr.cell 1 rfl
         have z0 := hr.fz 0 rfl
         have z1 := hr.fz 1 rfl
         have H1 := Lib.hid h1
         have H2 := Lib.hid h2
         have H3 := Lib.hid h3
         have H4 := Lib.hid h4
         have H6 := Lib.hid h6
         have H7 := Lib.hid h5.1
         clear HR h1 h2 h3 h4 h5 h6 hr hn5
         go_wp2
         refine bodyPost_ret (v := .agg #[.slice A6 k c6, .slice A5 n5 c5]) (by simp [results, Tryz.results25, go_sem, r0, r1]) rfl ?_
         refine ⟨_, _, σ, rfl, ?_, own_set (own_set H1.out (by omega)) (by omega), H2.out, H4.out, ?_, by have := H7.out; simp; omega⟩
         · show World.ownsRow _ _ _ _ _ t.names.length (t.names.map strS)
           rw [HNL.out]
           exact row_set (row_set H3.out (by omega)) (by omega)
         · exact ((wF0_below H6.out).setCell (p := ⟨w.heap.size + 1, 0, none⟩) (by show w.heap.size ≤ w.heap.size + 1; omega) _).setCell (p := ⟨w.heap.size + 1, 1, none⟩) (by show w.heap.size ≤ w.heap.size + 1; omega) _
end Go.Proofs.YtdbgaccnejffpaaGreat.Trace

namespace Go.Proofs.YtdbgaccnejffpaaGreat.Trace
open Go.RowKit Go.Proofs.YtdbgaccnejffpaaGreat.Ints Go.Proofs.YtdbgaccnejffpaaGreat.Mem

theorem first_tr {W : World} {B g : Nat} {vN v : Value} {σ : List SEv} {t : Tr} {S : Nat → Prop} (hN : W.ownsRow B 9 1 vN t.names.length (t.names.map strS)) (hE : OwnEvs S W B v σ) (hl : σ.map (·.1) = t.events) (hs : ∀ s ∈ t.names, s.length ≤ 16) (hg : g < B) (hS : ∀ b, S b → b ≠ g) :
   ∃ NA nn nc EA ne ec, vN = .slice NA nn nc ∧ v = .slice EA ne ec ∧ ∀ u0 u1, TrOk Any ((W.setCell ⟨g, 0, none⟩ u0).setCell ⟨g, 1, none⟩ u1) NA nn nc EA ne ec t := by
 obtain ⟨NA, nc, rfl, -⟩ := own_sliceN hN
 obtain ⟨EA, ec, rfl, -⟩ := own_sliceN hE.1
 refine ⟨NA, _, nc, EA, _, ec, rfl, rfl, fun u0 u1 => ?_⟩
 obtain ⟨-, h1, h2, h3⟩ := strs_own (row_set (k := 1) (u := u1) (row_set (k := 0) (u := u0) hN hg) hg)
 obtain ⟨A, c, e, h4, h5, h6⟩ := ((own_set (k := 1) (u := u1) (own_set (k := 0) (u := u0) hE hg hS) hg hS).mono (S' := Any) fun _ _ _ => trivial).reads fun _ _ _ => trivial
 injection e with e1 e2 e3
 subst e1; subst e3
 have hle : σ.length = t.events.length := by rw [← hl, List.length_map]
 rw [hl] at h4
 exact ⟨rfl, hle.symm, h1, fun s hs' => Nat.le_trans (hs s hs') (by decide), h4, ⟨h2, h3⟩, h5, h6⟩

theorem two_under0 {w w' : World} {o o' : Obj} (hb : Below ((w.alloc o).alloc o').heap.size ((w.alloc o).alloc o') w') : Below w.heap.size w w' := below_alloc (below_alloc hb)

set_option maxHeartbeats 4000000 in
set_option maxRecDepth 100000 in
theorem landCut (NA : Option Addr) (nn nc : Nat) (EA : Option Addr) (ne ec : Nat) (t : Tr) (i : Int) (w : World) (h : TrOk Any w NA nn nc EA ne ec t) (hs : TrSmall t) (hi : small64 i) :
   Calls Tryz.prog 15 #[.agg #[.slice NA nn nc, .slice EA ne ec], .int .i64 i] w (GotTr w (cutT t i)) := by
 have hm : maxLen = 9223372036854775807 := rfl
 have hni : (nn : Int) ≤ 9223372036854775807 := by have := h.ncap; omega
 have hei : (ne : Int) ≤ 9223372036854775807 := by have := h.ecap; omega
 obtain ⟨hi1, hi2⟩ := hi
 have hM := fun W (hb : Below w.heap.size w W) => landMay NA nn nc EA ne ec t W (h.below hb)
 rcases hmay : mayT t
 · have HR := Lib.hid (show cutT t i = noTr by unfold cutT; rw [hmay]; rfl)
   rw [hmay] at hM
   have HM := Lib.hid hM
   clear h hM hmay hm
   go_enter Tryz.func15, Tryz.ntmps15
   go_wp2_with (go_at_call 19; refine (HM.out _ (((Below.refl _ _).alloc (Nat.le_refl _) _).alloc (le_alloc (Nat.le_refl _)) _)).mono ?_; rintro e w1 ⟨rfl, hb1⟩; obtain ⟨hc, hf⟩ := fcell hb1; have hz : w.heap.size + 1 < w1.heap.size := by have := hb1.size; simp at this; omega)
   refine bodyPost_ret (v := .agg #[.slice none 0 0, .slice none 0 0]) (by simp [results, Tryz.results15, go_sem, hc]) rfl ?_
   rw [HR.out]
   exact ⟨_, _, _, _, _, _, rfl, TrOk.none _ _, below_two hb1 _ _⟩
 · obtain ⟨k, hk, hkn, hkt⟩ : ∃ k : Nat, min (max i 0) (ne : Int) = (k : Int) ∧ k ≤ ne ∧ t.events.take i.toNat = t.events.take k := by
     refine ⟨min i.toNat ne, by omega, by omega, ?_⟩
     have hl := h.elen
     rcases Nat.le_total i.toNat ne with h1 | h1
     · rw [Nat.min_eq_left h1]
     · rw [Nat.min_eq_right h1, List.take_of_length_le (by omega), List.take_of_length_le (by omega)]
   have HR := Lib.hid (show cutT t i = ⟨t.names, t.events.take k⟩ by unfold cutT; rw [hmay, if_pos rfl, hkt])
   have HF := Lib.hid (fun W (hb : Below w.heap.size w W) => landFirst NA nn nc EA ne ec k t W (h.below hb) hmay hkn (by rw [← h.elen]; exact hs.events))
   have HSZ := Lib.hid (may_sizes hmay)
   rw [hmay] at hM
   have HM := Lib.hid hM
   have hke : (k : Int) ≤ (ne : Int) := by omega
   have hk0 : (0 : Int) ≤ (k : Int) := by omega
   clear h hM hmay hm hkt hs
   go_enter Tryz.func15, Tryz.ntmps15
   go_wp2_with fail
   go_at_call 19
   refine (HM.out _ (((Below.refl _ _).alloc (Nat.le_refl _) _).alloc (le_alloc (Nat.le_refl _)) _)).mono ?_
   rintro e w1 ⟨rfl, hb1⟩
   obtain ⟨hc, hf⟩ := fcell hb1
   obtain ⟨t0, t1⟩ := boxT_at (below_two1 hb1)
   have hz : w.heap.size + 1 < w1.heap.size := by have := hb1.size; simp at this; omega
   have hw1 := two_under0 hb1
   go_wp2_with fail
   go_at_call 25
   refine (HF.out _ hw1).mono ?_
   rintro e w2 ⟨vN, v, σ, rfl, hN2, hE2, hl2, -, hb2, -⟩
   obtain ⟨NA2, nn2, nc2, EA2, ne2, ec2, rfl, rfl, hT2⟩ := first_tr (t := ⟨t.names, t.events.take k⟩) (g := w.heap.size + 1) hN2 hE2 hl2 HSZ.out (by omega) (fun b hb => by have : _ ≤ b := hb; omega)
   have hc2 := fun b o (h : b < w1.heap.size) => hb2.cell (p := ⟨b, o, none⟩) h
   have hf2 := fun b o (h : b < w1.heap.size) => hb2.frozen (p := ⟨b, o, none⟩) h
   have hz2 := hb2.size
   go_wp2
   refine bodyPost_ret (v := .agg #[.slice NA2 nn2 nc2, .slice EA2 ne2 ec2]) (by simp [results, Tryz.results15, go_sem, hc, hc2, hz]) rfl ?_
   rw [HR.out]
   exact ⟨_, _, _, _, _, _, rfl, hT2 _ _, ((hw1.trans (hb2.mono hw1.size)).setCell (p := ⟨w.heap.size + 1, 0, none⟩) (by show w.heap.size ≤ w.heap.size + 1; omega) _).setCell (p := ⟨w.heap.size + 1, 1, none⟩) (by show w.heap.size ≤ w.heap.size + 1; omega) _⟩

end Go.Proofs.YtdbgaccnejffpaaGreat.Trace
