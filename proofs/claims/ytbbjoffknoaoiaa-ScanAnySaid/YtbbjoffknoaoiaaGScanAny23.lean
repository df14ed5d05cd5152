/-
  The walks of the reference's Holds, Cut, SameEvent, SameEvents, SameTrace; slices.Index, Contains and Equal over names and ids. By an AI agent.
  The law's record and scanned (stage 12), from contracts of the landed Head and Record. By an AI agent.
-/
import Derived.Test.YtbbjoffknoaoiaaGScanAny18
import Derived.Deep.RegionHeld3
import Derived.Test.YtbbjoffknoaoiaaGScanAny12
import Derived.Test.YtbbjoffknoaoiaaGScanAny20
import Derived.Test.YtbbjoffknoaoiaaGScanAny21
import Derived.Test.YtbbjoffknoaoiaaGScanAny22
namespace Go.Proofs.Ytbbjoffknoaoiaa.Trace
open Go.RowKit Go.Proofs.Ytbbjoffknoaoiaa.Ints Go.Proofs.Ytbbjoffknoaoiaa.Mem

def idxL (l : List (List UInt8)) (x : List UInt8) : Int := if x ∈ l then ((l.idxOf x : Nat) : Int) else -1
theorem idx_from (l : List (List UInt8)) (x : ByteArray) (i : Nat) : Lib.idxFromS (l.map fun s => (⟨s.toArray⟩ : ByteArray)) x i = if x.data.toList ∈ l then ((i + l.idxOf x.data.toList : Nat) : Int) else -1 := by
  induction l generalizing i with
  | nil => rfl
  | cons z l ih =>
    have he : ((⟨z.toArray⟩ : ByteArray) = x) ↔ z = x.data.toList := by
      constructor
      · rintro rfl; rfl
      · rintro rfl; cases x; rfl
    rw [List.map_cons, Lib.idxFromS]
    by_cases h : z = x.data.toList
    · rw [if_pos (he.2 h), if_pos (by rw [h]; exact List.mem_cons_self), h, List.idxOf_cons_self]
      rfl
    · have hi : List.idxOf x.data.toList (z :: l) = List.idxOf x.data.toList l + 1 := by rw [List.idxOf_cons, cond_eq_ite, if_neg (by simpa using h)]
      rw [if_neg (fun e => h (he.1 e)), ih, hi]
      by_cases hm : x.data.toList ∈ l
      · rw [if_pos hm, if_pos (List.mem_cons_of_mem _ hm)]
        congr 1
        omega
      · rw [if_neg hm, if_neg (by rintro (_ | ⟨_, h2⟩); exact h rfl; exact hm h2)]
/-- slices.Index, at a list of names. -/
theorem indexStr (A : Option Addr) (n c : Nat) (l : List (List UInt8)) (x : ByteArray) (w : World) (hl : l.length = n) (hn : n ≤ maxLen) (h : Strs w A l) :
    Calls Try.prog 65 #[.slice A n c, .string x] w fun e w' => e = .returned (.int .i64 (idxL l x.data.toList)) ∧ w' = w := by
  subst hl
  have e0 : Lib.idxOfS (l.map fun s => (⟨s.toArray⟩ : ByteArray)) x = idxL l x.data.toList := by
    unfold Lib.idxOfS idxL
    rw [idx_from]
    simp
  by_cases h0 : l.length = 0
  · have : l = [] := List.eq_nil_of_length_eq_zero h0
    subst this
    exact Try.slices_Index_string_empty A c x w
  · obtain ⟨b, off, rfl, hc⟩ := h (by omega)
    refine (Try.slices_Index_string b off l.length c (l.map fun s => (⟨s.toArray⟩ : ByteArray)) x w (by rw [List.length_map]; exact Nat.le_refl _) hn (fun j hj => ?_)).mono fun e w' ⟨he, hw⟩ => ⟨?_, hw⟩
    · rw [List.length_map] at hj
      rw [hc j _ (List.getElem?_eq_getElem hj)]
      simp [List.getD, hj, strS]
    · rw [he, List.take_of_length_le (by rw [List.length_map]; exact Nat.le_refl _), e0]
/-- slices.Contains, at a list of ids. -/
theorem equalStrs (A1 A2 : Option Addr) (n1 c1 n2 c2 : Nat) (l1 l2 : List (List UInt8)) (w : World) (hl1 : l1.length = n1) (hl2 : l2.length = n2) (h1 : Strs w A1 l1) (h2 : Strs w A2 l2) (hb1 : n1 ≤ maxLen) (hb2 : n2 ≤ maxLen) :
    Calls Try.prog 18 #[.slice A1 n1 c1, .slice A2 n2 c2] w fun e w' => e = .returned (.bool (decide (l1 = l2))) ∧ ∃ q, w' = w.drewN q := by
  subst hl1; subst hl2
  by_cases hn : l1.length = l2.length
  · by_cases h0 : l1.length = 0
    · have e1 : l1 = [] := List.eq_nil_of_length_eq_zero h0
      have e2 : l2 = [] := List.eq_nil_of_length_eq_zero (by omega)
      subst e1; subst e2
      exact (Try.slices_Equal_string_empty A1 A2 c1 0 c2 w (by omega)).mono fun e w' ⟨he, hw⟩ => ⟨he, 0, hw⟩
    · obtain ⟨b1, o1, rfl, k1⟩ := h1 (by omega)
      obtain ⟨b2, o2, rfl, k2⟩ := h2 (by omega)
      refine (Try.slices_Equal_string b1 o1 l1.length c1 b2 o2 l2.length c2 (l1.map fun s => (⟨s.toArray⟩ : ByteArray)) (l2.map fun s => (⟨s.toArray⟩ : ByteArray)) w (by rw [List.length_map]; exact Nat.le_refl _) (by rw [List.length_map]; exact Nat.le_refl _) hb1 hb2 (fun j hj => ?_) (fun j hj => ?_)).mono fun e w' ⟨he, hw⟩ => ⟨?_, hw⟩
      · rw [List.length_map] at hj
        rw [k1 j _ (List.getElem?_eq_getElem hj)]
        simp [List.getD, hj, strS]
      · rw [List.length_map] at hj
        rw [k2 j _ (List.getElem?_eq_getElem hj)]
        simp [List.getD, hj, strS]
      · rw [he, List.take_of_length_le (by rw [List.length_map]; exact Nat.le_refl _), List.take_of_length_le (by rw [List.length_map]; exact Nat.le_refl _)]
        congr 2
        apply decide_eq_decide.2
        constructor
        · intro e
          have h3 := congrArg (List.map fun s : ByteArray => s.data.toList) e
          simpa [List.map_map, Function.comp_def] using h3
        · rintro rfl; rfl
  · have hne : decide (l1 = l2) = false := decide_eq_false fun e => hn (by rw [e])
    rw [hne]
    exact (Try.slices_Equal_string_lens A1 A2 l1.length c1 l2.length c2 w hn).mono fun e w' ⟨he, hw⟩ => ⟨he, 0, hw⟩
/-- The cells of a trace's box, behind a call. -/
theorem boxT_call {w W : World} {NA EA : Option Addr} {nn nc ne ec : Nat} (hb : Below (boxT w NA nn nc EA ne ec).heap.size (boxT w NA nn nc EA ne ec) W) : Below (w.heap.size + 1) (boxT w NA nn nc EA ne ec) W := by
  have e : (boxT w NA nn nc EA ne ec).heap.size = w.heap.size + 1 := by simp [boxT]
  rwa [e] at hb

end Go.Proofs.Ytbbjoffknoaoiaa.Trace

namespace Go.Proofs.Ytbbjoffknoaoiaa.Scan
open Go.RowKit Go.Proofs.Ytbbjoffknoaoiaa.Ints Go.Proofs.Ytbbjoffknoaoiaa.Mem Go.Proofs.Ytbbjoffknoaoiaa.SumMath Go.Proofs.Ytbbjoffknoaoiaa.SumWalks Go.Proofs.Ytbbjoffknoaoiaa.Trace Go.Proofs.Ytbbjoffknoaoiaa.Record Go.Proofs.Ytbbjoffknoaoiaa.Log Go.Proofs.Ytbbjoffknoaoiaa.Src

/-- The header of bytes that can be read up to a place. -/
def headF (b : List Int) (f : Nat) : List (List UInt8) × Nat × Nat := headD (b.take f) (if f < b.length then 10 else 5)
/-- What the landed Record leaves. -/
def GotRecS (S : Nat → Prop) (w : World) (g : Nat) (b sc : List Int) (f N : Nat) (p props : Int) (e : Ending) (w' : World) : Prop :=
  ∃ K c N', e = .returned (.tuple #[.agg #[.int .u64 (scanV b f p props).time, .slice K (scanV b f p props).ids.length c], .int .i64 (scanN b f p props : Nat), .int .i64 (scanE b f p props : Nat)]) ∧
    EvOk w' (scanV b f p props) K c ∧ LSrc S w' g b sc f N' ∧ N' ≤ N + b.length ∧ w.grownBy w' (some g) ∧ ∀ a, K = some a → w.heap.size ≤ a.block
/-- What the landed Head leaves. -/
def GotHeadS (S : Nat → Prop) (w : World) (g : Nat) (b sc : List Int) (f N : Nat) (e : Ending) (w' : World) : Prop :=
  ∃ A c N', e = .returned (.tuple #[.slice A (headF b f).1.length c, .int .i64 ((headF b f).2.1 : Nat), .int .i64 ((headF b f).2.2 : Nat)]) ∧
    w'.ownsRow w.heap.size 9 1 (.slice A (headF b f).1.length c) (headF b f).1.length ((headF b f).1.map strS) ∧ LSrc S w' g b sc f N' ∧ N' ≤ N + b.length ∧ w.grownBy w' (some g)
def RecC (M : Nat) : Prop := ∀ (S : Nat → Prop) (g : Nat) (b sc : List Int) (f N : Nat) (p props : Int) (w : World), LSrc S w g b sc f N → N ≤ 4611686018427387904 → small64 p → b.length ≤ M → Calls Try.prog 19 #[.pointer (some ⟨g, 0, none⟩), .int .i64 p, .int .i64 props] w (GotRecS S w g b sc f N p props)
def HeadC (M : Nat) : Prop := ∀ (S : Nat → Prop) (g : Nat) (b sc : List Int) (f N : Nat) (w : World), LSrc S w g b sc f N → N ≤ 4611686018427387904 → b.length ≤ M → Calls Try.prog 17 #[.pointer (some ⟨g, 0, none⟩)] w (GotHeadS S w g b sc f N)

set_option maxHeartbeats 8000000 in
set_option maxRecDepth 100000 in
theorem lawRecord {M : Nat} (LR : RecC M) (S : Nat → Prop) (g : Nat) (A : Option Addr) (n c : Nat) (b sc : List Int) (fault : Int) (N : Nat) (p props : Int) (w : World) (hnc : n ≤ c) (hc : c ≤ maxLen) (h : Rd .u8 w A n b) (hg : ∀ a, A = some a → 0 < n → a.block ≠ g)
    (hs : LSrc S w g b sc (faultP n fault) N) (hN : N ≤ 4611686018427387904) (hp : small64 p) (hM : n ≤ M) :
    Calls Try.prog 23 #[.pointer (some ⟨g, 0, none⟩), .slice A n c, .int .i64 fault, .int .i64 p, .int .i64 props] w fun e w' => e = .returned (.bool true) ∧ ∃ N', LSrc S w' g b sc (faultP n fault) N' ∧ N' ≤ N + n ∧ w.grownBy w' (some g) := by
  have q63 : maxLen = 9223372036854775807 := rfl
  have hlen := h.len
  have hL := LR S g b sc (faultP n fault) N p props w hs hN hp (by omega)
  unfold GotRecS at hL
  rw [hlen] at hL
  have HRR := Lib.hid (fun W (hr : Rd .u8 W A n b) => refRecord A n c b fault p props W hnc hc hr hp)
  unfold GotScan at HRR
  obtain ⟨f, hf⟩ : ∃ f, faultP n fault = f := ⟨_, rfl⟩
  rw [hf] at hL HRR ⊢
  obtain ⟨x, hx⟩ : ∃ x, scanV b f p props = x := ⟨_, rfl⟩
  obtain ⟨q, hq⟩ : ∃ q, scanN b f p props = q := ⟨_, rfl⟩
  obtain ⟨er, her⟩ : ∃ er, scanE b f p props = er := ⟨_, rfl⟩
  rw [hx, hq, her] at hL HRR
  have HL := Lib.hid hL
  have HD := Lib.hid h
  have HG := Lib.hid hg
  clear hL h hg hs hx hq her hf hlen LR
  go_enter Try.func23, Try.ntmps23
  go_wp2_with fail
  refine HL.out.mono ?_
  rintro e w1 ⟨K, kc, N', rfl, hok, hs1, hN1, hgr1, -⟩
  have hal := (Below.refl _ w1).alloc (Nat.le_refl _) (.cells #[.int .u64 x.time, .slice K x.ids.length kc] 38)
  have hx2 := Blk.new w1 #[.int .u64 x.time, .slice K x.ids.length kc] 38 [.int .u64 x.time, .slice K x.ids.length kc] rfl
  have hok2 := hok.below hal
  have HS2 := Lib.hid (hs1.below hal)
  have hr2 := (rd_grown HD.out hgr1 (fun a e h0 e2 => by injection e2 with e2; exact HG.out a e h0 e2)).below hal
  have HGR := Lib.hid (grown_trans hgr1 (grown_below hal (some g)))
  obtain ⟨w2, hw2⟩ : ∃ w2, w1.alloc (.cells #[.int .u64 x.time, .slice K x.ids.length kc] 38) = w2 := ⟨_, rfl⟩
  obtain ⟨g1, hg1⟩ : ∃ g1, w1.heap.size = g1 := ⟨_, rfl⟩
  rw [hw2] at hx2 hok2 HS2 hr2 HGR
  rw [hg1] at hx2
  have HX2 := Lib.hid hx2
  have HO2 := Lib.hid hok2
  have HRF := Lib.hid (HRR.out w2 hr2)
  clear hal hx2 hok hok2 hs1 hr2 hgr1 HRR HL HD HG
  go_wp2_with fail
  clear hw2 hg1 w1
  refine HRF.out.mono ?_
  rintro e w3 ⟨K2, kc2, rfl, hok3, hB3⟩
  have hal := (Below.refl _ w3).alloc (Nat.le_refl _) (.cells #[.int .u64 x.time, .slice K2 x.ids.length kc2] 38)
  have hB4 := hB3.trans (hal.mono hB3.size)
  have hx4 := HX2.out.later hB4
  have hy4 := Blk.new w3 #[.int .u64 x.time, .slice K2 x.ids.length kc2] 38 [.int .u64 x.time, .slice K2 x.ids.length kc2] rfl
  have hok4 := HO2.out.below hB4
  have hok5 := hok3.below hal
  have HS4 := Lib.hid (HS2.out.below hB4)
  have HGR4 := Lib.hid (grown_trans HGR.out (grown_below hB4 (some g)))
  obtain ⟨w4, hw4⟩ : ∃ w4, w3.alloc (.cells #[.int .u64 x.time, .slice K2 x.ids.length kc2] 38) = w4 := ⟨_, rfl⟩
  obtain ⟨g3, hg3⟩ : ∃ g3, w3.heap.size = g3 := ⟨_, rfl⟩
  rw [hw4] at hx4 hy4 hok4 hok5 HS4 HGR4
  rw [hg3] at hy4
  have x0 := hx4.cell 0 rfl
  have x1 := hx4.cell 1 rfl
  have y0 := hy4.cell 0 rfl
  have y1 := hy4.cell 1 rfl
  have FS := refSameEvent x x K K2 kc kc2 w4 hok4 hok5
  rw [show decide (x = x) = true from decide_eq_true rfl] at FS
  have HFS := Lib.hid FS
  clear hal hB3 hB4 hx4 hy4 hok3 hok4 hok5 FS HRF HX2 HO2 HS2 HGR
  go_wp2_with fail
  clear hw4 hg3
  refine HFS.out.mono ?_
  rintro e w5 ⟨rfl, hB5⟩
  have HS5 := Lib.hid (HS4.out.below hB5)
  have HG5 := Lib.hid (grown_trans HGR4.out (grown_below hB5 (some g)))
  clear hB5
  go_wp2_with fail
  go_ret
  exact ⟨rfl, N', HS5.out, hN1, HG5.out⟩

set_option maxHeartbeats 8000000 in
set_option maxRecDepth 100000 in
theorem lawScanned {M : Nat} (LR : RecC M) (LH : HeadC M) (A : Option Addr) (n c : Nat) (b : List Int) (B : Option Addr) (m d : Nat) (sc : List Int) (fault p props : Int) (w : World) (hnc : n ≤ c) (hc : c ≤ maxLen) (h : Rd .u8 w A n b) (hs : Rd .i64 w B m sc) (hn : n ≤ 140737488365568) (hm : m * 8 ≤ 140737488351232) (hM : n ≤ M) (hp : small64 p) :
    Calls Try.prog 8 #[.slice A n c, .slice B m d, .int .i64 fault, .int .i64 p, .int .i64 props] w fun e w' => e = .returned (.bool true) ∧ Below w.heap.size w w' := by
  have q63 : maxLen = 9223372036854775807 := rfl
  have HLEN := Lib.hid h.len
  have HN := Lib.hid (landNew A n c b B m d sc fault w hnc hc h hs hn hm)
  have HAH := Lib.hid (fun W (hb : Below w.heap.size w W) => lawAhead A n c b fault W hnc (h.below hb))
  have HREC := Lib.hid (fun S g N p' props' W (hb : Below w.heap.size w W) (hg : w.heap.size ≤ g) hs' hN' hp' => lawRecord LR S g A n c b sc fault N p' props' W hnc hc (h.below hb) (fun a e h0 e2 => by have := rd_lt h a e h0; omega) hs' hN' hp' hM)
  have hfn := fault_le n fault
  obtain ⟨f, hf⟩ : ∃ f, faultP n fault = f := ⟨_, rfl⟩
  rw [hf] at HN HAH HREC hfn
  have HRH := Lib.hid (fun W (hb : Below w.heap.size w W) => (show f < n → Calls Try.prog 22 #[.slice A f c, .bool true] W (GotHead W (b.take f) 10) from fun _ => refHead1 A f c (b.take f) W (by omega) hc ((h.below hb).take hfn)))
  have HRG := Lib.hid (fun W (hb : Below w.heap.size w W) => (show ¬ f < n → Calls Try.prog 22 #[.slice A f c, .bool false] W (GotHead W (b.take f) 5) from fun _ => refHead0 A f c (b.take f) W (by omega) hc ((h.below hb).take hfn)))
  have HLH := Lib.hid (fun S g W hs' => LH S g b sc f 0 W hs' (by decide) (by rw [HLEN.out]; exact hM))
  unfold GotHeadS headF at HLH
  unfold GotHead at HRH HRG
  rw [HLEN.out] at HLH
  obtain ⟨miss, hmiss⟩ : ∃ miss, (if f < n then 10 else 5) = miss := ⟨_, rfl⟩
  rw [hmiss] at HLH
  have hm10 : f < n → miss = 10 := fun h => by rw [← hmiss, if_pos h]
  have hm5 : ¬ f < n → miss = 5 := fun h => by rw [← hmiss, if_neg h]
  have hmz : miss ≠ 0 := by rw [← hmiss]; split <;> decide
  have hns := head_names (b := b.take f) (miss := miss) hmz
  have hpl : ∀ h : (headD (b.take f) miss).2.2 = 0, (headD (b.take f) miss).2.1 ≤ n := fun h => by have := (head_place hmz h).2; rw [List.length_take] at this; omega
  obtain ⟨l, hl⟩ : ∃ l, (headD (b.take f) miss).1 = l := ⟨_, rfl⟩
  obtain ⟨to, hto⟩ : ∃ to, (headD (b.take f) miss).2.1 = to := ⟨_, rfl⟩
  obtain ⟨er, her⟩ : ∃ er, (headD (b.take f) miss).2.2 = er := ⟨_, rfl⟩
  by_cases hc2 : f < n
  · have hmv := hm10 hc2
    subst hmv
    have HAH := Lib.hid (fun W hb => if_pos hc2 ▸ HAH.out W hb)
    have HRX := Lib.hid (fun W hb => HRH.out W hb hc2)
    rw [hl, hto, her] at HLH
    rw [hl, hto, her] at HRX
    rw [hl] at hns
    rw [hto, her] at hpl
    obtain ⟨ln, hln⟩ : ∃ ln, l.length = ln := ⟨_, rfl⟩
    rw [hln] at HLH HRX hns
    have HLN := Lib.hid hln
    clear HRH HRG hm10 hm5 hl hto her hmz hln hmiss h hs
    go_enter Try.func8, Try.ntmps8
    go_wp2_with fail
    refine HN.out.mono ?_
    rintro e w1 ⟨g, rfl, hS0, hgL, hB1⟩
    obtain ⟨S, hS1⟩ : ∃ S, LSrc S w1 g b sc f 0 := ⟨_, hS0⟩
    have HLS := Lib.hid (HLH.out S g w1 hS1)
    have HB1 := Lib.hid hB1
    clear hS0 hS1 hB1 HN HLH
    go_wp2_with fail
    refine HLS.out.mono ?_
    rintro e w2 ⟨L, lc, N', rfl, hown2, hs2, hN2, hgr2⟩
    have hB2 := HB1.out.trans (below_grown hgr2 HB1.out.size hgL)
    have HA2 := Lib.hid (HAH.out w2 hB2)
    have HR2 := Lib.hid (HRX.out w2 hB2)
    have HO2 := Lib.hid hown2
    have HS2 := Lib.hid hs2
    have HB2 := Lib.hid hB2
    clear hown2 hs2 hgr2 hB2 HLS HB1 HAH HRX
    go_wp2_with fail
    refine HA2.out.mono ?_
    rintro e w3 ⟨rfl, rfl⟩
    go_wp2_with fail
    refine HR2.out.mono ?_
    rintro e w4 ⟨L2, lc2, rfl, hown4, hB4⟩
    obtain ⟨-, hst1, hc1, hcm1⟩ := strs_own (below_row HO2.out hB4)
    obtain ⟨-, hst2, hc2', hcm2⟩ := strs_own hown4
    have FE := equalStrs L L2 ln lc ln lc2 l l w4 HLN.out HLN.out hst1 hst2 (by omega) (by omega)
    rw [show decide (l = l) = true from decide_eq_true rfl] at FE
    have HFE := Lib.hid FE
    have HS4 := Lib.hid (HS2.out.below hB4)
    have HB4 := Lib.hid (HB2.out.trans (hB4.mono HB2.out.size))
    clear hown4 hst1 hst2 hB4 FE HA2 HR2 HO2 HS2 HB2
    go_wp2_with fail
    refine HFE.out.mono ?_
    rintro e w5 ⟨rfl, qq, rfl⟩
    have HS5 := Lib.hid (HS4.out.below (below_drewN (Below.refl _ w4) qq))
    have HB5 := Lib.hid (below_drewN HB4.out qq)
    obtain ⟨W5, hW5⟩ : ∃ W5, w4.drewN qq = W5 := ⟨_, rfl⟩
    rw [hW5] at HS5 HB5 ⊢
    clear HFE HS4 HB4 hW5
    have hgL' : w.heap.size ≤ g := hgL
    by_cases he0 : er = 0
    · subst he0
      have hto2 := hpl rfl
      have HR5 := Lib.hid (HREC.out S g N' (to : Int) (ln : Int) W5 HB5.out hgL HS5.out (by have := HLEN.out; omega) ⟨by omega, by omega⟩)
      go_wp2_with fail
      refine HR5.out.mono ?_
      rintro e w6 ⟨rfl, N6, hs6, hN6, hgr6⟩
      have hB6 := HB5.out.trans (below_grown hgr6 HB5.out.size hgL)
      have HR6 := Lib.hid (HREC.out S g N6 p props w6 hB6 hgL hs6 (by have := HLEN.out; omega) hp)
      have HB6 := Lib.hid hB6
      clear hs6 hgr6 hB6 HR5
      go_wp2_with fail
      refine HR6.out.mono ?_
      rintro e w7 ⟨rfl, N7, -, -, hgr7⟩
      have HB7 := Lib.hid (HB6.out.trans (below_grown hgr7 HB6.out.size hgL))
      clear hgr7
      go_wp2_with fail
      go_ret
      exact ⟨rfl, HB7.out⟩
    have he0' : ((er : Int) == 0) = false := by simp; omega
    have HR6 := Lib.hid (HREC.out S g N' p props W5 HB5.out hgL HS5.out (by have := HLEN.out; omega) hp)
    go_wp2_with fail
    refine HR6.out.mono ?_
    rintro e w7 ⟨rfl, N7, -, -, hgr7⟩
    have HB7 := Lib.hid (HB5.out.trans (below_grown hgr7 HB5.out.size hgL))
    clear hgr7
    go_wp2_with fail
    go_ret
    exact ⟨rfl, HB7.out⟩
  · have hmv := hm5 hc2
    subst hmv
    have HAH := Lib.hid (fun W hb => if_neg hc2 ▸ HAH.out W hb)
    have HRX := Lib.hid (fun W hb => HRG.out W hb hc2)
    rw [hl, hto, her] at HLH
    rw [hl, hto, her] at HRX
    rw [hl] at hns
    rw [hto, her] at hpl
    obtain ⟨ln, hln⟩ : ∃ ln, l.length = ln := ⟨_, rfl⟩
    rw [hln] at HLH HRX hns
    have HLN := Lib.hid hln
    clear HRH HRG hm10 hm5 hl hto her hmz hln hmiss h hs
    go_enter Try.func8, Try.ntmps8
    go_wp2_with fail
    refine HN.out.mono ?_
    rintro e w1 ⟨g, rfl, hS0, hgL, hB1⟩
    obtain ⟨S, hS1⟩ : ∃ S, LSrc S w1 g b sc f 0 := ⟨_, hS0⟩
    have HLS := Lib.hid (HLH.out S g w1 hS1)
    have HB1 := Lib.hid hB1
    clear hS0 hS1 hB1 HN HLH
    go_wp2_with fail
    refine HLS.out.mono ?_
    rintro e w2 ⟨L, lc, N', rfl, hown2, hs2, hN2, hgr2⟩
    have hB2 := HB1.out.trans (below_grown hgr2 HB1.out.size hgL)
    have HA2 := Lib.hid (HAH.out w2 hB2)
    have HR2 := Lib.hid (HRX.out w2 hB2)
    have HO2 := Lib.hid hown2
    have HS2 := Lib.hid hs2
    have HB2 := Lib.hid hB2
    clear hown2 hs2 hgr2 hB2 HLS HB1 HAH HRX
    go_wp2_with fail
    refine HA2.out.mono ?_
    rintro e w3 ⟨rfl, rfl⟩
    go_wp2_with fail
    refine HR2.out.mono ?_
    rintro e w4 ⟨L2, lc2, rfl, hown4, hB4⟩
    obtain ⟨-, hst1, hc1, hcm1⟩ := strs_own (below_row HO2.out hB4)
    obtain ⟨-, hst2, hc2', hcm2⟩ := strs_own hown4
    have FE := equalStrs L L2 ln lc ln lc2 l l w4 HLN.out HLN.out hst1 hst2 (by omega) (by omega)
    rw [show decide (l = l) = true from decide_eq_true rfl] at FE
    have HFE := Lib.hid FE
    have HS4 := Lib.hid (HS2.out.below hB4)
    have HB4 := Lib.hid (HB2.out.trans (hB4.mono HB2.out.size))
    clear hown4 hst1 hst2 hB4 FE HA2 HR2 HO2 HS2 HB2
    go_wp2_with fail
    refine HFE.out.mono ?_
    rintro e w5 ⟨rfl, qq, rfl⟩
    have HS5 := Lib.hid (HS4.out.below (below_drewN (Below.refl _ w4) qq))
    have HB5 := Lib.hid (below_drewN HB4.out qq)
    obtain ⟨W5, hW5⟩ : ∃ W5, w4.drewN qq = W5 := ⟨_, rfl⟩
    rw [hW5] at HS5 HB5 ⊢
    clear HFE HS4 HB4 hW5
    have hgL' : w.heap.size ≤ g := hgL
    by_cases he0 : er = 0
    · subst he0
      have hto2 := hpl rfl
      have HR5 := Lib.hid (HREC.out S g N' (to : Int) (ln : Int) W5 HB5.out hgL HS5.out (by have := HLEN.out; omega) ⟨by omega, by omega⟩)
      go_wp2_with fail
      refine HR5.out.mono ?_
      rintro e w6 ⟨rfl, N6, hs6, hN6, hgr6⟩
      have hB6 := HB5.out.trans (below_grown hgr6 HB5.out.size hgL)
      have HR6 := Lib.hid (HREC.out S g N6 p props w6 hB6 hgL hs6 (by have := HLEN.out; omega) hp)
      have HB6 := Lib.hid hB6
      clear hs6 hgr6 hB6 HR5
      go_wp2_with fail
      refine HR6.out.mono ?_
      rintro e w7 ⟨rfl, N7, -, -, hgr7⟩
      have HB7 := Lib.hid (HB6.out.trans (below_grown hgr7 HB6.out.size hgL))
      clear hgr7
      go_wp2_with fail
      go_ret
      exact ⟨rfl, HB7.out⟩
    have he0' : ((er : Int) == 0) = false := by simp; omega
    have HR6 := Lib.hid (HREC.out S g N' p props W5 HB5.out hgL HS5.out (by have := HLEN.out; omega) hp)
    go_wp2_with fail
    refine HR6.out.mono ?_
    rintro e w7 ⟨rfl, N7, -, -, hgr7⟩
    have HB7 := Lib.hid (HB5.out.trans (below_grown hgr7 HB5.out.size hgL))
    clear hgr7
    go_wp2_with fail
    go_ret
    exact ⟨rfl, HB7.out⟩
end Go.Proofs.Ytbbjoffknoaoiaa.Scan
