/-
  The walk of the law's Sealed (stage 10): some bytes, within bounds. Written by wip/tools/genseal10.py. By an AI agent.
-/
import Derived.Test.YtbbjoffknoaoiaaGScanAny35
namespace Go.Proofs.Ytbbjoffknoaoiaa.Log
open Go.RowKit Go.Proofs.Ytbbjoffknoaoiaa.Ints Go.Proofs.Ytbbjoffknoaoiaa.Mem Go.Proofs.Ytbbjoffknoaoiaa.SumMath Go.Proofs.Ytbbjoffknoaoiaa.SumWalks Go.Proofs.Ytbbjoffknoaoiaa.Trace Go.Proofs.Ytbbjoffknoaoiaa.Record

/-- A row of bytes of the call's own, so many. -/
def OwnB (w : World) (base : Nat) (v : Value) (n : Nat) : Prop := ∃ zs : List Int, zs.length = n ∧ (∀ z ∈ zs, (Lit.int .u8 z).wf = true) ∧ w.ownsRow base 5 1 v n (zs.map (Value.int .u8))
/-- What a call that hands back some bytes leaves. -/
def GotSome (w : World) (m : Nat) (e : Ending) (w' : World) : Prop :=
  ∃ (zs : List Int) (A : Option Addr) (n c : Nat), e = .returned (.slice A n c) ∧ Rd .u8 w' A n zs ∧ n ≤ c ∧ c ≤ maxLen ∧ n ≤ m ∧ w.heap.size ≤ w'.heap.size ∧ Below w.heap.size w w'
theorem OwnB.reads {w : World} {base : Nat} {v : Value} {n : Nat} (h : OwnB w base v n) : ∃ zs A c, v = .slice A n c ∧ Rd .u8 w A n zs ∧ n ≤ c ∧ c ≤ maxLen := by
  obtain ⟨zs, -, h2, h3⟩ := h
  obtain ⟨A, c, rfl, h4, h5, -⟩ := own_slice h3
  exact ⟨zs, A, c, rfl, Rd.own h3 h2, h4, h5⟩
theorem OwnB.alloc {w : World} {base : Nat} {v : Value} {n : Nat} (h : OwnB w base v n) (o : Obj) : OwnB (w.alloc o) base v n := by
  obtain ⟨zs, h1, h2, h3⟩ := h
  exact ⟨zs, h1, h2, h3.alloc o⟩
theorem OwnB.below {w w' : World} {base : Nat} {v : Value} {n : Nat} (h : OwnB w base v n) (hb : Below w.heap.size w w') : OwnB w' base v n := by
  obtain ⟨zs, h1, h2, h3⟩ := h
  exact ⟨zs, h1, h2, below_row h3 hb⟩
theorem OwnB.weaken {w : World} {base base' : Nat} {v : Value} {n : Nat} (h : OwnB w base v n) (hb : base' ≤ base) : OwnB w base' v n := by
  obtain ⟨zs, h1, h2, h3⟩ := h
  exact ⟨zs, h1, h2, own_weaken h3 hb⟩
theorem OwnB.lt {w : World} {base : Nat} {v : Value} {n : Nat} (h : OwnB w base v n) : ∀ q, v.ownBlock = some q → base ≤ q ∧ q < w.heap.size := by
  obtain ⟨zs, h1, h2, h3⟩ := h
  exact h3.lt
theorem OwnB.made {w w' : World} {n : Nat} {zs : List Int} {e : Ending} (h : Made w n zs e w') (hl : zs.length = n) (hz : ∀ z ∈ zs, (Lit.int .u8 z).wf = true) : ∃ v, e = .returned v ∧ OwnB w' w.heap.size v n ∧ Below w.heap.size w w' := by
  obtain ⟨v, rfl, h1, h2⟩ := h
  exact ⟨v, rfl, ⟨zs, hl, hz, h1⟩, h2⟩
theorem OwnB.lit (w : World) (base : Nat) (zs : List Int) (n : Nat) (hn : zs.length = n) (hm : n ≤ maxLen) (hz : ∀ z ∈ zs, (Lit.int .u8 z).wf = true) (hb : base ≤ w.heap.size) :
    OwnB (w.alloc (.cells (zs.map (Value.int .u8)).toArray 5)) base (.slice (some ⟨w.heap.size, 0, none⟩) n n) n := ⟨zs, hn, hz, own_lit w base 5 .u8 zs n hn hm hb⟩
section
variable {P : Program} {w : World}
theorem wpList_append_b {ops : Array Oper} {rest : List Oper} {o : Oper} {a : Act} {Q : Exit → Act → World → Prop} (hgd : o.guard = none) (s x : Operand) (t : TypeId)
    (ho : o.op = .call { callee := .builtin .append, args := #[s, x], argTypes := #[t, t] }) (base : Nat) (i : TypeInfo)
    (ht : P.underlying t = some (.slice 5)) (hi : P.info? 5 = some i) (hz : i.zero = some (.int .u8 0)) (hsize : i.size = 1) (hby : i.bytes = 1)
    (v : Value) (n : Nat) (hs : a.eval s = v) (hown : OwnB w base v n) (A : Option Addr) (m c : Nat) (ys : List Int) (hx : a.eval x = .slice A m c) (hr : Rd .u8 w A m ys)
    (hl : n + m ≤ 1099511627776) (hbase : base ≤ w.heap.size)
    (h : ∀ v' w', OwnB w' base v' (n + m) → w.grownBy w' v.ownBlock → wpList P ops Q rest (a.put o.dst v') w') : wpList P ops Q (o :: rest) a w := by
  obtain ⟨zs, h1, h2, h3⟩ := hown
  refine wpList_append_ints hgd s x t ho .u8 base 5 i 1 ht hi hz hsize hby v n zs hs h3 A m c ys hx hr (by unfold maxLen; omega) (by omega) hbase fun v' w' h4 h5 => h v' w' ⟨zs ++ ys, by rw [List.length_append, h1, hr.len], fun z hz => ?_, h4⟩ h5
  rcases List.mem_append.1 hz with h6 | h6
  · exact h2 z h6
  · exact hr.all z h6
theorem wpList_append_bs {ops : Array Oper} {rest : List Oper} {o : Oper} {a : Act} {Q : Exit → Act → World → Prop} (hgd : o.guard = none) (sl x : Operand) (t u : TypeId)
    (ho : o.op = .call { callee := .builtin .append, args := #[sl, x], argTypes := #[t, u] })
    (base : Nat) (i : TypeInfo) (ht : P.underlying t = some (.slice 5)) (hu : P.underlying u = some .string) (hi : P.info? 5 = some i) (hz : i.zero = some (.int .u8 0))
    (hsize : i.size = 1) (hby : i.bytes = 1)
    (v : Value) (n : Nat) (hs : a.eval sl = v) (hown : OwnB w base v n) (s : ByteArray) (hx : a.eval x = .string s)
    (hl : n + s.size ≤ 1099511627776) (hbase : base ≤ w.heap.size)
    (h : ∀ v' w', OwnB w' base v' (n + s.size) → w.grownBy w' v.ownBlock → wpList P ops Q rest (a.put o.dst v') w') : wpList P ops Q (o :: rest) a w := by
  obtain ⟨zs, h1, h2, h3⟩ := hown
  refine wpList_append_str hgd sl x t u ho base 5 i ht hu hi hz hsize hby v n zs hs h3 s hx (by unfold maxLen; omega) (by omega) hbase fun v' w' h4 h5 => h v' w' ⟨zs ++ toI s.data.toList, by rw [List.length_append, h1, size_toI], fun z hz => ?_, h4⟩ h5
  rcases List.mem_append.1 hz with h6 | h6
  · exact h2 z h6
  · exact u8_wf (toI_bytes _ z h6)
end
theorem refPutB (A : Option Addr) (n c : Nat) (zs : List Int) (w : World) (hc : n ≤ 140737488351232) (h : Rd .u8 w A n zs) :
    Calls Try.prog 28 #[.slice A n c] w fun e w' => ∃ v, e = .returned v ∧ OwnB w' w.heap.size v (n + 4) ∧ Below w.heap.size w w' := by
  refine (refPut A n c zs w hc h).mono fun e w' hm => OwnB.made hm ?_ ?_
  · rw [List.length_append, h.len]; rfl
  · intro z hz
    rcases List.mem_append.1 hz with h1 | h1
    · exact h.all z h1
    · exact u8_wf (be4_bytes (adn_bd 1 _) z h1)

set_option maxHeartbeats 16000000 in
set_option maxRecDepth 100000 in
theorem lawSeal (NA : Option Addr) (nn nc : Nat) (names : List (List UInt8)) (EA : Option Addr) (ne ec : Nat) (l : List Ev) (w : World) (hnl : names.length = nn) (hnn : nn ≤ 300) (hN : Strs w NA names) (hsum : (names.map List.length).sum ≤ 1048576)
    (hel : l.length = ne) (hne : ne ≤ 300) (hE : Evs Any w EA l) (hids : ∀ i, i < ne → (l.getD i noEv).ids.length ≤ 300) :
    Calls Try.prog 13 #[.slice NA nn nc, .slice EA ne ec] w (GotSome w 2000000) := by
  obtain ⟨i0, hi, hz0, hz1, hz2⟩ := info_parts info5s
  have q63 : maxLen = 9223372036854775807 := rfl
  obtain ⟨F, hF⟩ : ∃ F : Nat → Nat, F = fun k => 5 + k + ((names.take k).map List.length).sum := ⟨_, rfl⟩
  have HF0 := Lib.hid (show F 0 = 5 by rw [hF]; simp)
  have HFS := Lib.hid (show ∀ k, k < nn → F (k + 1) = F k + (1 + (names.getD k []).length) from fun k hk => by
    rw [hF]
    simp only
    have hk2 : k < names.length := by omega
    rw [List.take_succ_eq_append_getElem hk2, List.map_append, List.sum_append]
    have e : names.getD k [] = names[k] := by simp [List.getD, hk2]
    rw [e]
    simp
    omega)
  have HFB := Lib.hid (show ∀ k, k ≤ nn → F k ≤ 1100000 from fun k hk => by
    rw [hF]
    simp only
    have h1 : names.map List.length = (names.take k).map List.length ++ (names.drop k).map List.length := by rw [← List.map_append, List.take_append_drop]
    rw [h1, List.sum_append] at hsum
    omega)
  have HD := Lib.hid hN
  have HL := Lib.hid hnl
  have HEV := Lib.hid hE
  have HEL := Lib.hid hel
  have HIDS := Lib.hid hids
  clear hF hsum hN hnl hE hel hids
  go_enter Try.func13, Try.ntmps13
  go_wp2
  go_loopw [5, 22] (fun v iv wr => ∃ k : Nat, k ≤ nn ∧ iv = .int .i64 k ∧ OwnB wr w.heap.size v (F k) ∧ Below w.heap.size w wr) (fun _ iv _ => nn - (intOf iv).toNat)
  case atStart =>
    refine ⟨0, Nat.zero_le _, rfl, ?_, (Below.refl _ _).alloc (Nat.le_refl _) _⟩
    rw [HF0.out]
    exact OwnB.lit w w.heap.size [87, 71, 76, 1, (nn : Int) % 256] 5 rfl (by decide) (fun z hz => u8_wf (by simp at hz; omega)) (Nat.le_refl _)
  case round =>
    obtain ⟨k, hk, rfl, hrow, hBr⟩ := hrel
    have hsz := hBr.size
    have hfb := HFB.out k hk
    by_cases hkn : k < nn
    · obtain ⟨b, off, rfl, hcell⟩ := strs_cell (HD.out.below hBr) (k := k) (by rw [HL.out]; exact hkn)
      have HN := Lib.hid (HFS.out k hkn)
      have hfn := HFB.out (k + 1) (by omega)
      rw [HN.out] at hfn
      obtain ⟨sb, hsb⟩ : ∃ sb : ByteArray, (⟨(names.getD k []).toArray⟩ : ByteArray) = sb := ⟨_, rfl⟩
      have hlen : (names.getD k []).length = sb.size := by rw [← hsb]; show _ = (names.getD k []).toArray.size; simp
      rw [hsb] at hcell
      rw [hlen] at HN hfn
      obtain ⟨fl, hfl⟩ : ∃ fl, F k = fl := ⟨_, rfl⟩
      rw [hfl] at hrow HN hfb hfn
      have HROW := Lib.hid hrow
      clear hsb hlen hrow hfl
      go_wp2_with (first
        | (at_builtin; refine wpList_append_bs rfl _ _ 22 9 rfl w.heap.size i0 Try.underlying22 Try.underlying9 hi hz0 hz1 hz2 _ _ rfl hown2 sb rfl (by omega) hsz3 ?_; intro v4 w4 hown4 hgr4)
        | (at_builtin; refine wpList_append_b rfl _ _ 22 rfl w.heap.size i0 Try.underlying22 hi hz0 hz1 hz2 _ _ rfl (HROW.out.alloc _) _ 1 1 [(sb.size : Int) % 256] rfl (Rd.lit wr 5 (0, 0) [(sb.size : Int) % 256] (one_byte (by omega))) (by omega) (le_alloc hsz) ?_; intro v2 w2 hown2 hgr2; have hB2 := (hBr.alloc hsz (.cells #[.int .u8 ((sb.size : Int) % 256)] 5)).grown hgr2 (le_alloc hsz) (fun q hq => (HROW.out.lt q hq).1); have hsz3 := hB2.size))
      go_roundw
      case rel => exact ⟨k + 1, by omega, by go_num, by rw [HN.out, ← Nat.add_assoc]; exact hown4, hB2.grown hgr4 hsz3 (fun q hq => (hown2.lt q hq).1)⟩
      case measure => simp [intOf]; omega
    obtain rfl : k = nn := by omega
    obtain ⟨zs, A2, c2, rfl, hrd, hc2, hm2⟩ := hrow.reads
    obtain ⟨fl, hfl⟩ : ∃ fl, F k = fl := ⟨_, rfl⟩
    rw [hfl] at hrd hfb ⊢
    have FP := Lib.hid (refPutB A2 fl c2 zs wr (by omega) hrd)
    have HB := Lib.hid hBr
    clear hrow hBr hrd hfl HF0 HFS HFB HD HL
    go_wp2_with fail
    refine FP.out.mono ?_
    rintro e w2 ⟨v2, rfl, hown2, hB2⟩
    have HB2 := Lib.hid (HB.out.trans (hB2.mono HB.out.size))
    have HO2 := Lib.hid (hown2.weaken HB.out.size)
    clear hown2 hB2 FP HB hsz
    clear wr
    go_wp2_with fail
    go_loopw [8, 39] (fun v iv wr => ∃ (k n : Nat), k ≤ ne ∧ iv = .int .i64 k ∧ n ≤ 1100010 + 400 * k ∧ OwnB wr w.heap.size v n ∧ Below w.heap.size w wr) (fun _ iv _ => ne - (intOf iv).toNat)
    case atStart => exact ⟨0, fl + 4, Nat.zero_le _, rfl, by omega, HO2.out, HB2.out⟩
    case round =>
      obtain ⟨k, n, hk, rfl, hn, hrow, hBr⟩ := hrel
      have hsz := hBr.size
      by_cases hkn : k < ne
      rotate_left
      · obtain rfl : k = ne := by omega
        obtain ⟨zs, A2, c2, rfl, hrd, hc2, hm2⟩ := hrow.reads
        have HRD := Lib.hid hrd
        clear hrow hrd
        go_wp2_with fail
        go_ret
        exact ⟨zs, A2, n, c2, rfl, HRD.out, hc2, hm2, by omega, hsz, hBr⟩
      obtain ⟨b', off, K, ck, hEq, c0, c1, hokk⟩ := (HEV.out.below hBr).kids (k := k) (by rw [HEL.out]; exact hkn)
      have hid := HIDS.out k hkn
      obtain ⟨ev, hev⟩ : ∃ ev, l.getD k noEv = ev := ⟨_, rfl⟩
      rw [hev] at c0 c1 hokk hid
      obtain ⟨m3, hm3⟩ : ∃ m3, ev.ids.length = m3 := ⟨_, rfl⟩
      rw [hm3] at c1 hid
      have hm3b : (m3 : Int) ≤ 300 := by omega
      obtain ⟨t, ht⟩ : ∃ t, ev.time = t := ⟨_, rfl⟩
      have htb := wf_u64 hokk.1
      rw [ht] at c0 htb
      obtain ⟨ht0, ht1⟩ := htb
      obtain ⟨ids, hids⟩ : ∃ ids, ev.ids = ids := ⟨_, rfl⟩
      have hIR := hokk.2.1
      rw [hm3, hids] at hIR
      have hal := (Below.refl _ wr).alloc (Nat.le_refl _) (.cells #[.int .u64 t, .slice K m3 ck] 38)
      have hx := Blk.new wr #[.int .u64 t, .slice K m3 ck] 38 [.int .u64 t, .slice K m3 ck] rfl
      obtain ⟨w5, hw5⟩ : ∃ w5, wr.alloc (.cells #[.int .u64 t, .slice K m3 ck] 38) = w5 := ⟨_, rfl⟩
      obtain ⟨g5, hg5⟩ : ∃ g5, wr.heap.size = g5 := ⟨_, rfl⟩
      have hgs : w5.heap.size = g5 + 1 := by rw [← hw5, ← hg5]; simp
      rw [hw5] at hal hx
      rw [hg5] at hx
      have hr5 := hrow.below hal
      have HIR := Lib.hid (hIR.below hal)
      have HB5 := Lib.hid (hBr.trans (hal.mono hsz))
      have HX5 := Lib.hid hx
      have HR5 := Lib.hid hr5
      have x1 := hx.cell 1 rfl
      subst hEq
      clear hev hm3 hids ht hokk hid hal hx hrow hBr hr5 hIR hsz
      go_wp2_with fail
      clear c0 c1 hw5 hg5 x1
      clear wr
      go_loopw [12, 53] (fun v iv wr => ∃ (q : Nat) (z : Int), q ≤ 8 ∧ iv = .int .i64 z ∧ z = q ∧ OwnB wr w5.heap.size v (2 + q) ∧ Below w5.heap.size w5 wr) (fun _ iv _ => 8 - (intOf iv).toNat)
      case atStart => exact ⟨0, 0, Nat.zero_le _, rfl, rfl, (show OwnB _ w5.heap.size (.slice (some ⟨g5 + 1, 0, none⟩) 2 2) 2 from by have h7 := OwnB.lit w5 w5.heap.size [(8 + (m3 : Int)) / 256, (8 + (m3 : Int)) % 256] 2 rfl (by decide) (fun z hz => u8_wf (by simp at hz; omega)) (Nat.le_refl _); rw [hgs] at h7 ⊢; exact h7), (Below.refl _ _).alloc (Nat.le_refl _) _⟩
      case round =>
        obtain ⟨q, z, hq, rfl, hzq, hrow, hBr⟩ := hrel
        have hsz := hBr.size
        have e0 := (HX5.out.later hBr).cell 0 rfl
        have e1 := (HX5.out.later hBr).cell 1 rfl
        obtain rfl | rfl | rfl | rfl | rfl | rfl | rfl | rfl | rfl : q = 0 ∨ q = 1 ∨ q = 2 ∨ q = 3 ∨ q = 4 ∨ q = 5 ∨ q = 6 ∨ q = 7 ∨ q = 8 := by omega
        · obtain rfl : z = 0 := hzq
          go_wp2_with (at_builtin; refine wpList_append_b rfl _ _ 22 rfl w5.heap.size i0 Try.underlying22 hi hz0 hz1 hz2 _ _ rfl (hrow.alloc _) _ 1 1 [t / 72057594037927936] rfl (Rd.lit wr 5 (0, 0) [t / 72057594037927936] (one_byte (by omega))) (by omega) (le_alloc hsz) ?_; intro v6 w6 hown6 hgr6)
          go_roundw
          case rel => exact ⟨0 + 1, 0 + 1, by omega, by go_num, rfl, hown6, (hBr.alloc hsz _).grown hgr6 (le_alloc hsz) (fun z hz => (hrow.lt z hz).1)⟩
          case measure => simp [intOf]
        · obtain rfl : z = 1 := hzq
          go_wp2_with (at_builtin; refine wpList_append_b rfl _ _ 22 rfl w5.heap.size i0 Try.underlying22 hi hz0 hz1 hz2 _ _ rfl (hrow.alloc _) _ 1 1 [t / 281474976710656 % 256] rfl (Rd.lit wr 5 (0, 0) [t / 281474976710656 % 256] (one_byte (by omega))) (by omega) (le_alloc hsz) ?_; intro v6 w6 hown6 hgr6)
          go_roundw
          case rel => exact ⟨1 + 1, 1 + 1, by omega, by go_num, rfl, hown6, (hBr.alloc hsz _).grown hgr6 (le_alloc hsz) (fun z hz => (hrow.lt z hz).1)⟩
          case measure => simp [intOf]
        · obtain rfl : z = 2 := hzq
          go_wp2_with (at_builtin; refine wpList_append_b rfl _ _ 22 rfl w5.heap.size i0 Try.underlying22 hi hz0 hz1 hz2 _ _ rfl (hrow.alloc _) _ 1 1 [t / 1099511627776 % 256] rfl (Rd.lit wr 5 (0, 0) [t / 1099511627776 % 256] (one_byte (by omega))) (by omega) (le_alloc hsz) ?_; intro v6 w6 hown6 hgr6)
          go_roundw
          case rel => exact ⟨2 + 1, 2 + 1, by omega, by go_num, rfl, hown6, (hBr.alloc hsz _).grown hgr6 (le_alloc hsz) (fun z hz => (hrow.lt z hz).1)⟩
          case measure => simp [intOf]
        · obtain rfl : z = 3 := hzq
          go_wp2_with (at_builtin; refine wpList_append_b rfl _ _ 22 rfl w5.heap.size i0 Try.underlying22 hi hz0 hz1 hz2 _ _ rfl (hrow.alloc _) _ 1 1 [t / 4294967296 % 256] rfl (Rd.lit wr 5 (0, 0) [t / 4294967296 % 256] (one_byte (by omega))) (by omega) (le_alloc hsz) ?_; intro v6 w6 hown6 hgr6)
          go_roundw
          case rel => exact ⟨3 + 1, 3 + 1, by omega, by go_num, rfl, hown6, (hBr.alloc hsz _).grown hgr6 (le_alloc hsz) (fun z hz => (hrow.lt z hz).1)⟩
          case measure => simp [intOf]
        · obtain rfl : z = 4 := hzq
          go_wp2_with (at_builtin; refine wpList_append_b rfl _ _ 22 rfl w5.heap.size i0 Try.underlying22 hi hz0 hz1 hz2 _ _ rfl (hrow.alloc _) _ 1 1 [t / 16777216 % 256] rfl (Rd.lit wr 5 (0, 0) [t / 16777216 % 256] (one_byte (by omega))) (by omega) (le_alloc hsz) ?_; intro v6 w6 hown6 hgr6)
          go_roundw
          case rel => exact ⟨4 + 1, 4 + 1, by omega, by go_num, rfl, hown6, (hBr.alloc hsz _).grown hgr6 (le_alloc hsz) (fun z hz => (hrow.lt z hz).1)⟩
          case measure => simp [intOf]
        · obtain rfl : z = 5 := hzq
          go_wp2_with (at_builtin; refine wpList_append_b rfl _ _ 22 rfl w5.heap.size i0 Try.underlying22 hi hz0 hz1 hz2 _ _ rfl (hrow.alloc _) _ 1 1 [t / 65536 % 256] rfl (Rd.lit wr 5 (0, 0) [t / 65536 % 256] (one_byte (by omega))) (by omega) (le_alloc hsz) ?_; intro v6 w6 hown6 hgr6)
          go_roundw
          case rel => exact ⟨5 + 1, 5 + 1, by omega, by go_num, rfl, hown6, (hBr.alloc hsz _).grown hgr6 (le_alloc hsz) (fun z hz => (hrow.lt z hz).1)⟩
          case measure => simp [intOf]
        · obtain rfl : z = 6 := hzq
          go_wp2_with (at_builtin; refine wpList_append_b rfl _ _ 22 rfl w5.heap.size i0 Try.underlying22 hi hz0 hz1 hz2 _ _ rfl (hrow.alloc _) _ 1 1 [t / 256 % 256] rfl (Rd.lit wr 5 (0, 0) [t / 256 % 256] (one_byte (by omega))) (by omega) (le_alloc hsz) ?_; intro v6 w6 hown6 hgr6)
          go_roundw
          case rel => exact ⟨6 + 1, 6 + 1, by omega, by go_num, rfl, hown6, (hBr.alloc hsz _).grown hgr6 (le_alloc hsz) (fun z hz => (hrow.lt z hz).1)⟩
          case measure => simp [intOf]
        · obtain rfl : z = 7 := hzq
          go_wp2_with (at_builtin; refine wpList_append_b rfl _ _ 22 rfl w5.heap.size i0 Try.underlying22 hi hz0 hz1 hz2 _ _ rfl (hrow.alloc _) _ 1 1 [t % 256] rfl (Rd.lit wr 5 (0, 0) [t % 256] (one_byte (by omega))) (by omega) (le_alloc hsz) ?_; intro v6 w6 hown6 hgr6)
          go_roundw
          case rel => exact ⟨7 + 1, 7 + 1, by omega, by go_num, rfl, hown6, (hBr.alloc hsz _).grown hgr6 (le_alloc hsz) (fun z hz => (hrow.lt z hz).1)⟩
          case measure => simp [intOf]
        · obtain rfl : z = 8 := hzq
          have HROW := Lib.hid hrow
          have HBR := Lib.hid hBr
          clear hrow hBr
          obtain ⟨wo, hwo⟩ : ∃ wo, wr = wo := ⟨_, rfl⟩
          subst hwo
          go_wp2_with fail
          clear e0 e1
          go_loopw [12, 71] (fun v iv wq => ∃ q : Nat, q ≤ m3 ∧ iv = .int .i64 q ∧ OwnB wq w5.heap.size v (10 + q) ∧ Below w5.heap.size w5 wq) (fun _ iv _ => m3 - (intOf iv).toNat)
          case atStart => exact ⟨0, Nat.zero_le _, rfl, HROW.out, HBR.out⟩
          case round =>
            clear HROW HBR hsz
            obtain ⟨q, hq', rfl, hrow, hBr⟩ := hrel
            have hsz := hBr.size
            by_cases hqm : q < m3
            · obtain ⟨b3, o3, hk3, hc3⟩ := (HIR.out.below hBr).cell (by omega)
              have x0 := hc3 q hqm
              obtain ⟨y, hy⟩ : ∃ y, ids[q]?.getD 0 = y := ⟨_, rfl⟩
              rw [hy] at x0
              subst hk3
              clear hc3 hy
              go_wp2_with (at_builtin; refine wpList_append_b rfl _ _ 22 rfl w5.heap.size i0 Try.underlying22 hi hz0 hz1 hz2 _ _ rfl (hrow.alloc _) _ 1 1 [y % 256] rfl (Rd.lit wr 5 (0, 0) [y % 256] (one_byte (by omega))) (by omega) (le_alloc hsz) ?_; intro v6 w6 hown6 hgr6)
              go_roundw
              case rel => exact ⟨q + 1, by omega, by go_num, by rw [← Nat.add_assoc]; exact hown6, (hBr.alloc hsz _).grown hgr6 (le_alloc hsz) (fun z hz => (hrow.lt z hz).1)⟩
              case measure => simp [intOf]; omega
            obtain rfl : q = m3 := by omega
            obtain ⟨ys, A6, c6, rfl, hrd, hc6, hm6⟩ := hrow.reads
            have FP := Lib.hid (refPutB A6 (10 + q) c6 ys wr (by omega) hrd)
            have HB6 := Lib.hid (HB5.out.trans (hBr.mono HB5.out.size))
            have HR6 := Lib.hid (HR5.out.below hBr)
            clear hrow hrd hBr HR5
            go_wp2_with fail
            refine FP.out.mono ?_
            rintro e w7 ⟨v7, rfl, hown7, hB7⟩
            obtain ⟨rs, A7, c7, rfl, hrd7, hc7, hm7⟩ := hown7.reads
            have HR7 := Lib.hid (HR6.out.below hB7)
            have HB7 := Lib.hid (HB6.out.trans (hB7.mono HB6.out.size))
            have hsz7 := HB7.out.size
            clear hown7 hB7 FP HR6
            go_wp2_with (at_builtin; refine wpList_append_b rfl _ _ 22 rfl w.heap.size i0 Try.underlying22 hi hz0 hz1 hz2 _ _ rfl HR7.out _ _ _ rs rfl hrd7 (by omega) hsz7 ?_; intro v8 w8 hown8 hgr8)
            go_roundw
            case rel => exact ⟨k + 1, n + (10 + q + 4), by omega, by go_num, by omega, hown8, HB7.out.grown hgr8 hsz7 (fun z hz => (HR7.out.lt z hz).1)⟩
            case measure => simp [intOf]; omega
end Go.Proofs.Ytbbjoffknoaoiaa.Log
