/-
  The walks of the reference's Start and Part. The walk of the reference's Part.
  Made of several texts by wip/tools/mergetpl.py. By an AI agent.
-/
import Derived.Test.YtmahbocelckmcaaNodeRow
import Derived.Test.YtmahbocelckmcaaTreeRef2
import Derived.Deep.RegionHeld

/- The walks of the reference's Start and Part. By an AI agent. -/
namespace Go.Proofs.Ytmahbocelckmcaa.Tree
open Go.RowKit Go.Proofs.Ytmahbocelckmcaa.Ints

/-- What a call leaves that hands back nodes, in blocks of S. -/
def GotNodes (S : Nat → Prop) (w : World) (m : List Nd) (e : Ending) (w' : World) : Prop :=
  ∃ A c, e = .returned (.slice A m.length c) ∧ Nodes S w' A m ∧ m.length ≤ c ∧ c ≤ maxLen ∧ Below w.heap.size w w'
theorem GotNodes.none0 {S : Nat → Prop} {w w' : World} (hb : Below w.heap.size w w') : GotNodes S w [] (.returned (.slice none 0 0)) w' := ⟨none, 0, rfl, Nodes.nil _ _ _, Nat.le_refl _, by decide, hb⟩
theorem GotNodes.own {S : Nat → Prop} {w w' : World} {base : Nat} {v : Value} {σ : List SNd} {m : List Nd} (h : OwnNodes S w' base v σ) (hm : σ.map (·.1) = m) (hS : ∀ b, base ≤ b → b < w'.heap.size → S b) (hb : Below w.heap.size w w') : GotNodes S w m (.returned v) w' := by
  obtain ⟨A, c, rfl, h2, h3, h4⟩ := h.reads hS
  subst hm
  exact ⟨A, c, by rw [List.length_map], h2, by rw [List.length_map]; exact h3, h4, hb⟩
theorem GotNodes.mono {S S' : Nat → Prop} {w : World} {m : List Nd} {e : Ending} {w' : World} (h : GotNodes S w m e w') (hs : ∀ b, b < w'.heap.size → S b → S' b) : GotNodes S' w m e w' := by
  obtain ⟨A, c, h1, h2, h3⟩ := h
  exact ⟨A, c, h1, h2.mono hs, h3⟩

/-! ### where a part begins -/
theorem start_stop {l : List Nd} {i f : Nat} {n : Nd} (h : l[i]? = some n) (hk : n.kids = []) : startF l f i = i := by
  cases f with
  | zero => rfl
  | succ f => rw [startF, h]; simp only [hk]
theorem start_go {l : List Nd} {i f t : Nat} {n : Nd} {r : List Int} (h : l[i]? = some n) (hk : n.kids = (t : Int) :: r) : startF l (f + 1) i = startF l f t := by
  rw [startF, h]; simp only [hk, Int.toNat_natCast]
theorem startF_fuel {l : List Nd} (hm : mayL l = true) : ∀ (i : Nat), i < l.length → ∀ f, i < f → startF l f i = startL l i := by
  intro i
  induction i using Nat.strongRecOn with
  | ind i ih =>
    intro hi f hf
    obtain ⟨f, rfl⟩ : ∃ g, f = g + 1 := ⟨f - 1, by omega⟩
    have hn := List.getElem?_eq_getElem hi
    cases hk : l[i].kids with
    | nil => unfold startL; rw [start_stop hn hk, start_stop hn hk]
    | cons k r =>
      have hb := may_kids hm hn k (by rw [hk]; exact List.mem_cons_self ..)
      obtain ⟨t, rfl⟩ := Int.eq_ofNat_of_zero_le hb.1
      unfold startL
      rw [start_go hn hk, start_go hn hk, ih t (by omega) (by omega) f (by omega), ih t (by omega) (by omega) i (by omega)]
theorem startL_stop {l : List Nd} {i : Nat} {n : Nd} (h : l[i]? = some n) (hk : n.kids = []) : startL l i = i := start_stop h hk
theorem startL_go {l : List Nd} (hm : mayL l = true) {i t : Nat} {n : Nd} {r : List Int} (h : l[i]? = some n) (hk : n.kids = (t : Int) :: r) : startL l i = startL l t := by
  have hb := may_kids hm h t (by rw [hk]; exact List.mem_cons_self ..)
  have hi := (List.getElem?_eq_some_iff.1 h).1
  unfold startL
  rw [start_go h hk]
  exact startF_fuel hm t (by omega) i (by omega)
theorem startL_le {l : List Nd} (hm : mayL l = true) : ∀ (i : Nat), i < l.length → startL l i ≤ i := by
  intro i
  induction i using Nat.strongRecOn with
  | ind i ih =>
    intro hi
    have hn := List.getElem?_eq_getElem hi
    cases hk : l[i].kids with
    | nil => rw [startL_stop hn hk]; exact Nat.le_refl _
    | cons k r =>
      have hb := may_kids hm hn k (by rw [hk]; exact List.mem_cons_self ..)
      obtain ⟨t, rfl⟩ := Int.eq_ofNat_of_zero_le hb.1
      rw [startL_go hm hn hk]
      have := ih t (by omega) (by omega)
      omega

set_option maxHeartbeats 4000000 in
theorem refStart (A : Option Addr) (n c i : Nat) (l : List Nd) (w : World) (hl : l.length = n) (hn : n ≤ 1048576) (hi : i < n) (hm : mayL l = true) (h : Nodes Any w A l) :
    Calls Try.prog 58 #[.slice A n c, .int .i64 (i : Int)] w fun e w' => e = .returned (.int .i64 (startL l i : Int)) ∧ w' = w := by
  have hni : (n : Int) ≤ 1048576 := by omega
  have HL := Lib.hid hl
  have HM := Lib.hid hm
  have HI := Lib.hid hi
  obtain ⟨b, off, e, hnodes⟩ := h (by omega)
  have HNS := Lib.hid hnodes
  subst e
  clear hl hn hm h hnodes hi
  go_enter Try.func58, Try.ntmps58
  go_wp2
  go_loop [1] (fun v => ∃ k : Nat, k < n ∧ v = .int .i64 k ∧ Hid (startL l i = startL l k)) (fun v => (intOf v).toNat)
  case atStart => exact ⟨i, HI.out, rfl, rfl⟩
  case round =>
    obtain ⟨k, hk, rfl, HS⟩ := hrel
    have hk' : (k : Int) < (n : Int) := by omega
    have hk0 : (0 : Int) ≤ (k : Int) := by omega
    obtain ⟨nd, hnd⟩ : ∃ nd, l[k]? = some nd := ⟨_, List.getElem?_eq_getElem (by have := HL.out; omega)⟩
    obtain ⟨x0, x1, x2, x3, s0, s2, s3, s1, K, cK, x4, hK, hKc, hcK, -, -⟩ := HNS.out k nd hnd
    rw [Nat.mul_comm 5 k] at x0 x1 x2 x3 x4
    have HND := Lib.hid hnd
    cases hkids : nd.kids with
    | nil =>
      rw [hkids] at x4
      simp only [List.length_nil] at x4
      have HR := Lib.hid (HS.out.trans (startL_stop HND.out hkids))
      clear hnd hK hKc hkids HS
      go_wp2
      go_ret
      exact ⟨by rw [HR.out]; rfl, rfl⟩
    | cons kk r =>
      have hb := may_kids HM.out HND.out kk (by rw [hkids]; exact List.mem_cons_self ..)
      obtain ⟨t, rfl⟩ := Int.eq_ofNat_of_zero_le hb.1
      have htk : t < k := by omega
      have HR := Lib.hid (HS.out.trans (startL_go HM.out HND.out hkids))
      obtain ⟨bk, ok, eK, hkc⟩ := hK.cell (by rw [hkids]; simp)
      have ck := hkc 0 (by rw [hkids]; simp)
      rw [hkids] at ck x4
      simp only [List.getElem?_cons_zero, Option.getD_some, Nat.add_zero, List.length_cons] at ck x4
      have hr0 : (0 : Int) < (r.length : Int) + 1 := by omega
      have hr1 : 0 < r.length + 1 := by omega
      subst eK
      clear hnd hK hKc hkids HS hkc hb
      go_wp2
      go_round
      case rel => exact ⟨t, by omega, rfl, HR⟩
      case measure => simp [intOf]; omega
end Go.Proofs.Ytmahbocelckmcaa.Tree

/- The walk of the reference's Part. By an AI agent. -/
namespace Go.Proofs.Ytmahbocelckmcaa.Tree
open Go.RowKit Go.Proofs.Ytmahbocelckmcaa.Ints

/-- Kids in a row of one's own, under a node. -/
theorem kid_own {S : Nat → Prop} {w : World} {base : Nat} {kv : Value} {ks : List Int} {nd : Nd} (h : w.ownsRow base 3 1 kv ks.length (ks.map (Value.int .i64))) (hz : ∀ z ∈ ks, (Lit.int .i64 z).wf = true)
    (s0 : small64 nd.kind) (s2 : small64 nd.lo) (s3 : small64 nd.hi) (s1 : nd.name.size ≤ maxLen) (hS : ∀ b, base ≤ b → S b) : ∃ K c, kv = .slice K ks.length c ∧ KidOk S w ({ nd with kids := ks }, K, c) := by
  obtain ⟨K, c, rfl, h1, h2, -, h4⟩ := own_slice h
  exact ⟨K, c, rfl, ⟨s0, s2, s3, s1, Rd.own h hz, h1, h2⟩, fun a e _ => hS _ (h4 a e).1⟩
theorem KidOk.setCell {S : Nat → Prop} {w : World} {s : SNd} (h : KidOk S w s) (p : Addr) (u : Value) (hp : ∀ b, S b → p.block ≠ b) : KidOk S (w.setCell p u) s :=
  h.keep fun q _ hq hc => (World.cell?_setCell_far w p q u (hp _ hq)).trans hc
theorem wf_moved {ks : List Int} {d B : Int} (h : ∀ k ∈ ks, 0 ≤ k ∧ k < B) (hd : -B ≤ d ∧ d ≤ B) (hB : B ≤ 1048576) : ∀ z ∈ ks.map (· + d), (Lit.int .i64 z).wf = true := by
  intro z hz
  obtain ⟨k, hk, rfl⟩ := List.mem_map.1 hz
  have := h k hk
  exact WalkArith.wf_i64 (by omega)
theorem part_cut {l : List Nd} {i f : Nat} (j : Nat) (hj : j < i + 1 - f) : ((l.take (i + 1)).drop f)[j]? = l[f + j]? := by
  rw [List.getElem?_drop, List.getElem?_take_of_lt (by omega)]
theorem part_len {l : List Nd} {i f : Nat} (hi : i < l.length) : ((l.take (i + 1)).drop f).length = i + 1 - f := by
  rw [List.length_drop, List.length_take]; omega
/-- A slice from a place up to a place. -/
theorem slice_part {P : Program} (t : TypeId) (ht : P.underlying t = some (.slice (P.elem t))) (size : Nat) (hs : (P.info? (P.elem t)).map (·.size) = some size) (A : Option Addr) (n cap k m : Nat) (hk : k ≤ m) (hm : m ≤ cap) (W : World) :
    (Instr.slice t (.slice A n cap) (some (.int .i64 (k : Int))) (some (.int .i64 (m : Int))) none).run P W = .ok (.slice (fromAddr A cap k size) (m - k) (cap - k)) W := by
  rw [run_slice_lh W t A n cap ht .i64 .i64 (k : Int) (m : Int) (by omega) (by omega) (by omega)]
  obtain ⟨i, hi, hz⟩ := Option.map_eq_some_iff.1 hs
  simp [sizeOf, typeInfo, hi, hz, Result.andThen, sliced, fromAddr]
theorem sizeElemNodes : (Try.prog.info? (Try.prog.elem 22)).map (·.size) = some 5 := by kernel_rfl
theorem typeNodes : Try.prog.underlying 22 = some (.slice (Try.prog.elem 22)) := by kernel_rfl

/-- The moved kids of the nodes of a part. -/
def cutL (l : List Nd) (f i : Nat) : List Nd := ((l.take (i + 1)).drop f).map (shiftNd (-(f : Int)))
theorem cut_next {l : List Nd} {f i j : Nat} {nd : Nd} (hi : i < l.length) (hj : j < i + 1 - f) (h : l[f + j]? = some nd) : (cutL l f i).take (j + 1) = (cutL l f i).take j ++ [shiftNd (-(f : Int)) nd] := by
  unfold cutL
  have hl := part_len (f := f) hi
  have hj' : j < (((l.take (i + 1)).drop f).map (shiftNd (-(f : Int)))).length := by rw [List.length_map, hl]; exact hj
  rw [List.take_succ_eq_append_getElem hj']
  congr 2
  rw [List.getElem_map]
  have := part_cut (l := l) (i := i) (f := f) j hj
  rw [h, List.getElem?_eq_getElem (by omega)] at this
  rw [Option.some.inj this]

theorem kid_cells {nd : Nd} {ks : List Int} {K : Option Addr} {c m : Nat} (h : ks.length = m) : cellsS ({ nd with kids := ks }, K, c) = [.int .i64 nd.kind, .string nd.name, .int .i64 nd.lo, .int .i64 nd.hi, .slice K m c] := by
  subst h; rfl
theorem moved_next (ks : List Int) (j t : Nat) (d : Int) (h : ks.take (j + 1) = ks.take j ++ [(t : Int)]) : ((ks.take j).map (· + d)) ++ [(t : Int) + d] = (ks.take (j + 1)).map (· + d) := by
  rw [h, List.map_append]; rfl

set_option maxHeartbeats 8000000 in
set_option maxRecDepth 100000 in
theorem refPart (A : Option Addr) (n c : Nat) (i : Int) (l : List Nd) (w : World) (hl : l.length = n) (hn : n ≤ 1048576) (hnc : n ≤ c) (h : Nodes Any w A l) (hi : small64 i) :
    Calls Try.prog 33 #[.slice A n c, .int .i64 i] w (GotNodes (fun b => w.heap.size ≤ b) w (partL l i)) := by
  obtain ⟨i0, hi0, hz0, hz1, hz2⟩ := info_parts infoInt
  obtain ⟨j0, hj0, hy0, hy1, hy2⟩ := info_parts infoNode
  have hni : (n : Int) ≤ 1048576 := by omega
  obtain ⟨hi1, hi2⟩ := hi
  have hM := fun W (hb : Below w.heap.size w W) => refMay A n c l W hl hn (h.below hb)
  have HL := Lib.hid hl
  have HD := Lib.hid h
  have HN := Lib.hid hn
  clear hl hn h
  rcases hm : mayL l
  · have HR := Lib.hid (show partL l i = [] by unfold partL; rw [if_neg (by rw [hm]; simp)])
    rw [hm] at hM
    have HM := Lib.hid hM
    clear hM hm
    go_enter Try.func33, Try.ntmps33
    go_wp2_with (go_at_call 26; refine (HM.out _ (Below.refl _ _)).mono ?_; rintro e w1 ⟨rfl, hb1⟩)
    go_ret
    rw [HR.out]
    exact GotNodes.none0 hb1
  · have HMY := Lib.hid hm
    rw [hm] at hM
    have HM := Lib.hid hM
    by_cases hlo : i < 0
    · have HR := Lib.hid (show partL l i = [] by unfold partL; rw [if_neg (by omega)])
      clear hM hm
      go_enter Try.func33, Try.ntmps33
      go_wp2_with (go_at_call 26; refine (HM.out _ (Below.refl _ _)).mono ?_; rintro e w1 ⟨rfl, hb1⟩)
      go_ret
      rw [HR.out]
      exact GotNodes.none0 hb1
    · have hlo' : decide (i < 0) = false := decide_eq_false hlo
      by_cases hhi : (n : Int) ≤ i
      · have HR := Lib.hid (show partL l i = [] by unfold partL; rw [if_neg (by have := HL.out; omega)])
        clear hM hm
        go_enter Try.func33, Try.ntmps33
        go_wp2_with (go_at_call 26; refine (HM.out _ (Below.refl _ _)).mono ?_; rintro e w1 ⟨rfl, hb1⟩)
        go_ret
        rw [HR.out]
        exact GotNodes.none0 hb1
      · have hhi' : decide ((n : Int) ≤ i) = false := decide_eq_false hhi
        obtain ⟨q, rfl⟩ := Int.eq_ofNat_of_zero_le (show 0 ≤ i by omega)
        have hqn : q < n := by omega
        have HR := Lib.hid (show partL l (q : Int) = cutL l (startL l q) q by unfold partL cutL; rw [if_pos ⟨hm, by have := HL.out; omega⟩, Int.toNat_natCast])
        have hfq := startL_le hm q (by have := HL.out; omega)
        have hS := fun W (hb : Below w.heap.size w W) => refStart A n c q l W HL.out HN.out hqn hm (HD.out.below hb)
        obtain ⟨f, hf⟩ : ∃ f, startL l q = f := ⟨_, rfl⟩
        rw [hf] at hS hfq HR
        have HST := Lib.hid hS
        obtain ⟨t, ht⟩ : ∃ t, q + 1 - f = t := ⟨_, rfl⟩
        have hsl := slice_part (P := Try.prog) 22 typeNodes 5 sizeElemNodes A n c f (q + 1) (by omega) (by omega)
        rw [ht, Int.natCast_add, Int.natCast_one] at hsl
        obtain ⟨T, hT⟩ : ∃ T, fromAddr A c f 5 = T := ⟨_, rfl⟩
        obtain ⟨cT, hcT⟩ : ∃ cT, c - f = cT := ⟨_, rfl⟩
        rw [hT, hcT] at hsl
        obtain ⟨b, off, eA, hnodes⟩ := HD.out (by have := HL.out; omega)
        have hTe : T = some ⟨b, off + f * 5, none⟩ := by
          rw [← hT, eA]
          unfold fromAddr
          rw [if_neg (by omega)]
          unfold Addr.add
          simp
        subst hTe
        have HNS := Lib.hid hnodes
        have HT := Lib.hid ht
        have hti : (t : Int) ≤ 1048576 := by omega
        have hfi : (f : Int) ≤ 1048576 := by omega
        subst eA
        clear hM hm hS hf hT hcT hnodes ht hnc
        go_enter Try.func33, Try.ntmps33
        go_wp2_with (first
          | (go_at_call 26; refine (HM.out _ (Below.refl _ _)).mono ?_; rintro e w1 ⟨rfl, hb1⟩)
          | (go_at_call 58; refine (HST.out _ hb1).mono ?_; rintro e w2 ⟨rfl, rfl⟩))
        have HB1 := Lib.hid hb1
        clear hb1
        go_loopw [6, 34] (fun v i wr => ∃ (j : Nat) (σ : List SNd), j ≤ t ∧ i = .int .i64 j ∧ OwnNodes (fun b => w.heap.size ≤ b) wr w.heap.size v σ ∧ σ.length = j ∧ Hid (σ.map (·.1) = (cutL l f q).take j) ∧ Below w.heap.size w wr) (fun _ i _ => t - (intOf i).toNat)
        case atStart => exact ⟨0, [], Nat.zero_le _, rfl, OwnNodes.nil _ _ _, rfl, rfl, HB1.out⟩
        case round =>
          obtain ⟨j, σ, hj, rfl, hown, hσ, HC, hB⟩ := hrel
          have HO := Lib.hid hown
          have HB := Lib.hid hB
          have HSG := Lib.hid hσ
          clear hown hB hσ
          by_cases hjt : j < t
          · have hjt' : (j : Int) < (t : Int) := by omega
            obtain ⟨nd, hnd⟩ : ∃ nd, l[f + j]? = some nd := ⟨_, List.getElem?_eq_getElem (by have := HL.out; have := HT.out; omega)⟩
            obtain ⟨x0, x1, x2, x3, s0, s2, s3, s1, K, cK, x4, hK, hKc, hcK, -, -⟩ := HNS.out (f + j) nd hnd
            rw [show off + 5 * (f + j) = off + f * 5 + j * 5 by omega] at x0 x1 x2 x3 x4
            replace x0 := below_cell HB.out x0
            replace x1 := below_cell HB.out x1
            replace x2 := below_cell HB.out x2
            replace x3 := below_cell HB.out x3
            replace x4 := below_cell HB.out x4
            have HND := Lib.hid hnd
            obtain ⟨m, hm⟩ : ∃ m, nd.kids.length = m := ⟨_, rfl⟩
            rw [hm] at x4 hK hKc
            have HMK := Lib.hid hm
            have HRK := Lib.hid hK
            have hm64 : (m : Int) ≤ 9223372036854775807 := by have : maxLen = 9223372036854775807 := rfl; omega
            have hm2 : m ≤ 2 := by rw [← hm]; exact may_arity HMY.out hnd
            obtain ⟨wo, hwo⟩ : ∃ wo : World, wo = wr := ⟨_, rfl⟩
            rw [← hwo] at HO HB
            have HSM := Lib.hid (⟨s0, s2, s3, s1⟩ : small64 nd.kind ∧ small64 nd.lo ∧ small64 nd.hi ∧ nd.name.size ≤ maxLen)
            clear hnd hK hm s0 s2 s3 s1
            go_wp2
            go_loopw [9, 41] (fun kv i wx => ∃ k : Nat, k ≤ m ∧ i = .int .i64 k ∧ wx.ownsRow (wo.heap.size + 1) 3 1 kv k (((nd.kids.take k).map (· + -(f : Int))).map (Value.int .i64)) ∧ Below (wo.heap.size + 1) (wo.alloc (.cells #[.int .i64 nd.kind, .string nd.name, .int .i64 nd.lo, .int .i64 nd.hi, .slice K m cK] 33)) wx) (fun _ i _ => m - (intOf i).toNat)
            case atStart => exact ⟨0, Nat.zero_le _, rfl, World.ownsRow_nil _ _ _ _, by rw [hwo]; exact Below.refl _ _⟩
            case round =>
              obtain ⟨k, hk, rfl, hrow, hBx⟩ := hrel
              have hszx : wo.heap.size + 1 ≤ wr.heap.size := by have := hBx.size; simp at this; omega
              have hBo : Below wo.heap.size wo wr := ((Below.refl _ _).alloc (Nat.le_refl _) _).trans (hBx.mono (Nat.le_succ _))
              have HRX := Lib.hid hrow
              have HBX := Lib.hid hBx
              have HBO := Lib.hid hBo
              have HWO := Lib.hid hwo
              clear hrow hBx hBo hwo
              by_cases hkm : k < m
              · have hkm' : (k : Int) < (m : Int) := by omega
                obtain ⟨t', ht', htk, htake⟩ := kid_nat HMY.out HND.out (j := k) (by rw [HMK.out]; exact hkm)
                obtain ⟨bk, ok, eK, hkc⟩ := (HRK.out.below (HB.out.trans (HBO.out.mono HB.out.size))).cell (by omega)
                have ck := hkc k hkm
                rw [ht'] at ck
                have HTK := Lib.hid htake
                have htb : (t' : Int) ≤ 1048576 := by have := HL.out; have := HT.out; omega
                subst eK
                clear ht' htake hkc
                go_wp2_with (at_builtin; refine wpList_append_ints rfl (.tmp 45) (.tmp 49) 31 rfl .i64 (wo.heap.size + 1) 3 i0 8 Try.underlying31 hi0 hz0 hz1 hz2 _ k _ rfl (HRX.out.alloc _) _ 1 1 [(t' : Int) - (f : Int)] rfl (Rd.lit wr 3 (0, 0) [(t' : Int) - (f : Int)] (fun z hz => by rw [List.mem_singleton.1 hz]; exact WalkArith.wf_i64 (by omega))) (by have : maxLen = 9223372036854775807 := rfl; omega) (by omega) (le_alloc hszx) ?_; intro v1 w3 hown1 hgr1)
                go_roundw
                case rel =>
                  refine ⟨k + 1, by omega, by go_num, ?_, (HBX.out.alloc hszx _).grown hgr1 (le_alloc hszx) (fun z hz => (HRX.out.lt z hz).1)⟩
                  rw [← moved_next _ _ _ _ HTK.out, ← Int.sub_eq_add_neg]
                  exact hown1
                case measure => simp [intOf]; omega
              · have hge : decide ((k : Int) < (m : Int)) = false := by simp; omega
                have e : k = m := by omega
                subst e
                have hks : nd.kids.take k = nd.kids := List.take_of_length_le (by rw [HMK.out]; exact Nat.le_refl _)
                have hrow := HRX.out
                rw [hks] at hrow
                have hkl : (nd.kids.map (· + -(f : Int))).length = k := by rw [List.length_map, HMK.out]
                rw [← hkl] at hrow
                obtain ⟨s0, s2, s3, s1⟩ := HSM.out
                obtain ⟨K', c', e', hko⟩ := kid_own (S := fun b => wo.heap.size + 1 ≤ b) hrow (wf_moved (B := 1048576) (fun x hx => by have := may_kids HMY.out HND.out x hx; have := HL.out; have := HT.out; omega) (by omega) (by omega)) s0 s2 s3 s1 (fun b hb => hb)
                rw [hkl] at e'
                subst e'
                have HKO := Lib.hid hko
                have HCS := Lib.hid (kid_cells (nd := nd) (K := K') (c := c') hkl)
                have hbx := HBX.out.mono (show (wo.alloc (.cells #[.int .i64 nd.kind, .string nd.name, .int .i64 nd.lo, .int .i64 nd.hi, .slice K k cK] 33)).heap.size ≤ wo.heap.size + 1 by simp)
                have hx0 := below_cell hbx (box_cell 0 (.int .i64 nd.kind) rfl)
                have hx1 := below_cell hbx (box_cell 1 (.string nd.name) rfl)
                have hx2 := below_cell hbx (box_cell 2 (.int .i64 nd.lo) rfl)
                have hx3 := below_cell hbx (box_cell 3 (.int .i64 nd.hi) rfl)
                have hx4 := below_cell hbx (box_cell 4 (.slice K k cK) rfl)
                have hfz : wr.frozen? ⟨wo.heap.size, 4, none⟩ = false := ((fcell hbx).2 wo.heap.size 4 (by simp)).trans (by simp)
                have HOX := Lib.hid (HO.out.below (HBO.out.setCell (p := ⟨wo.heap.size, 4, none⟩) (Nat.le_refl _) (.slice K' k c')))
                have HSZ := Lib.hid (show w.heap.size ≤ wr.heap.size from Nat.le_trans HB.out.size HBO.out.size)
                have HKN := Lib.hid (show KidOk (fun b => w.heap.size ≤ b ∧ some b ≠ Value.ownBlock u6) (wr.setCell ⟨wo.heap.size, 4, none⟩ (.slice K' k c')) ({ nd with kids := nd.kids.map (· + -(f : Int)) }, K', c') from
                  (HKO.out.setCell _ _ (fun b hb e => by simp only at e hb; omega)).mono fun b _ hb => ⟨Nat.le_trans HB.out.size (by omega), fun e => by have := (HO.out.1.lt b e.symm).2; omega⟩)
                rw [← HWO.out] at *
                have HQ0 := Lib.hid (show (#[.int .i64 nd.kind, .string nd.name, .int .i64 nd.lo, .int .i64 nd.hi, .slice K' k c'] : Array Value) = (cellsS ({ nd with kids := nd.kids.map (· + -(f : Int)) }, K', c')).toArray by rw [HCS.out])
                have HQ1 := Lib.hid (show (wr.setCell ⟨wo.heap.size, 4, none⟩ (.slice K' k c')).heap.size = wr.heap.size by simp)
                have HQ2 := Lib.hid (show w.heap.size ≤ (wr.setCell ⟨wo.heap.size, 4, none⟩ (.slice K' k c')).heap.size by rw [HQ1.out]; exact HSZ.out)
                have HSL := Lib.hid (show σ.length ≤ 4194304 by have := HSG.out; omega)
                clear hrow hkl hks hko hbx HWO
                go_wp2_with (at_builtin; refine wpList_append_nd rfl (.tmp 54) (.tmp 56) 22 rfl w.heap.size j0 _ Try.underlying22 hj0 hy0 hy1 hy2 rfl _ σ (by rfl) (fun b => w.heap.size ≤ b) HOX.out ({ nd with kids := nd.kids.map (· + -(f : Int)) }, K', c') HKN.out _ _ HQ0.out wr.heap.size HQ1.out (by rfl) HSL.out HQ2.out ?_; intro v1 w3 hown1 hgr1 _)
                go_roundw
                case rel => exact ⟨j + 1, σ ++ [({ nd with kids := nd.kids.map (· + -(f : Int)) }, K', c')], by omega, by go_num, hown1, by rw [List.length_append, HSG.out]; rfl, by rw [List.map_append, HC.out, cut_next (by have := HL.out; omega) (by have := HT.out; omega) HND.out]; rfl, ((((HB.out.trans (HBO.out.mono HB.out.size)).setCell (p := ⟨wo.heap.size, 4, none⟩) HB.out.size _).alloc HQ2.out _).grown hgr1 (le_alloc HQ2.out) (fun z hz => (HO.out.1.lt z hz).1))⟩
                case measure => simp [intOf]; omega
          · have hge : decide ((j : Int) < (t : Int)) = false := by simp; omega
            have e : j = t := by omega
            have HF := Lib.hid (GotNodes.own (w := w) HO.out (m := cutL l f q) (by rw [HC.out]; exact List.take_of_length_le (by unfold cutL; rw [List.length_map, part_len (by have := HL.out; omega)]; have := HT.out; omega)) (fun b hb _ => hb) HB.out)
            clear e
            go_wp2
            go_ret
            rw [HR.out]
            exact HF.out
end Go.Proofs.Ytmahbocelckmcaa.Tree
