/-
  The walk of the reference's Text. By an AI agent.
-/
import Derived.Test.YtmjfopggehopjaaDoorGShowTells12
import Derived.Test.YtmjfopggehopjaaDoorGShowTells30
import Derived.Test.YtmjfopggehopjaaDoorGShowTells29
import Derived.Test.YtmjfopggehopjaaDoorGShowTells32
import Derived.Test.YtmjfopggehopjaaDoorGShowTells11
import Derived.Test.YtmjfopggehopjaaDoorGShowTells22
import Derived.Laws.MakeOwn
import Derived.RegionTactic
import Derived.ChangeAlike
import Derived.StillTailTactics
import Derived.BigQuiet
import Derived.Deep.QuietTactic
import Derived.Deep.RegionWith
namespace Go.Proofs.YtmjfopggehopjaaDoor.Show
open Go.RowKit Go.Proofs.YtmjfopggehopjaaDoor.Tree Go.Proofs.YtmjfopggehopjaaDoor.Itoa Go.Proofs.YtmjfopggehopjaaDoor.Ints
open Go.Proofs.YtmjfopggehopjaaDoor.Parse (Blk Blk.new)

abbrev encT (s : List UInt8) : Value := .string (Lex.bytes s)
theorem infoStrT : (Tryd.prog.info? 9).map (fun i => (i.zero, i.size, i.bytes)) = some (some (.string { data := #[] }), 1, 16) := by kernel_rfl
theorem made_strs (n : Nat) : (madeCells (Value.string { data := #[] }).cells (n * 1)).toList = (List.replicate n ([] : List UInt8)).map encT := by
  rw [Nat.mul_one]
  apply List.ext_getElem
  · simp [madeCells]
  · intro i h1 h2
    have e : (Value.string { data := #[] }).cells = #[Value.string { data := #[] }] := rfl
    simp [madeCells, e, Nat.mod_one]
    rfl
theorem str_cell {w : World} {base : Nat} {e : TypeId} {n g cap : Nat} {L : List (List UInt8)} (h : w.ownsRow base e 1 (.slice (some ⟨g, 0, none⟩) n cap) n (L.map encT)) {j : Nat} (hj : j < n) : w.cell? ⟨g, j, none⟩ = some (.string (Lex.bytes (L.getD j []))) := by
  have hl : L.length = n := by simpa using h.1
  rw [h.cellAt j (by omega)]
  have hj' : j < L.length := by omega
  simp [List.getElem?_eq_getElem hj']
theorem str_set {w : World} {base : Nat} {e : TypeId} {n g cap : Nat} {L : List (List UInt8)} (h : w.ownsRow base e 1 (.slice (some ⟨g, 0, none⟩) n cap) n (L.map encT)) (j : Nat) (y : List UInt8) :
    (w.setCell ⟨g, j, none⟩ (.string (Lex.bytes y))).ownsRow base e 1 (.slice (some ⟨g, 0, none⟩) n cap) n ((L.set j y).map encT) := by
  rw [List.map_set]; exact (h.stored j _).1
theorem bel_drewN (w : World) (n B : Nat) : Below B w (w.drewN n) := ⟨rfl, rfl, rfl, Nat.le_refl _, fun _ _ => rfl⟩
def tRow (n k : Nat) (l : List Nd) : List (List UInt8) := textsTo l k ++ List.replicate (n - k) []
theorem tRow_low {n k j : Nat} {l : List Nd} (hl : l.length = n) (hk : k ≤ n) (hj : j < k) : (tRow n k l).getD j [] = txt l j := by
  unfold tRow
  rw [getD_left (by rw [textsTo_len (by omega)]; exact hj), texts_at hj (by omega)]
theorem tRow_set {n k : Nat} {l : List Nd} {nd : Nd} (hl : l.length = n) (hnd : l[k]? = some nd) : (tRow n k l).set k (nodeT nd (kidsT (textsTo l k) l nd)) = tRow n (k + 1) l := by
  have hk := (List.getElem?_eq_some_iff.1 hnd).1
  unfold tRow
  rw [List.set_append_right _ _ (by rw [textsTo_len (by omega)]; exact Nat.le_refl _), textsTo_len (by omega), Nat.sub_self, textsTo_succ hnd, List.append_assoc]
  congr 1
  have e : n - k = (n - (k + 1)) + 1 := by omega
  rw [e, List.replicate_succ]
  rfl
theorem tRow_done {n : Nat} {l : List Nd} : tRow n n l = textsTo l n := by
  unfold tRow
  rw [Nat.sub_self, List.replicate_zero, List.append_nil]
/-- A row of one's own stays, whatever is made behind it. -/
theorem bytes_len (l : List UInt8) : (Lex.bytes l).size = l.length := rfl
theorem bytes_app (a b : List UInt8) : Lex.bytes (a ++ b) = Lex.bytes a ++ Lex.bytes b := by
  apply ByteArray.ext
  apply Array.toList_inj.1
  simp [Lex.bytes]

theorem below_fz {w w' : World} (hb : Below w.heap.size w w') {b o : Nat} (hl : b < w.heap.size) (h : w.frozen? ⟨b, o, none⟩ = false) : w'.frozen? ⟨b, o, none⟩ = false := by
  rw [hb.frozen (p := ⟨b, o, none⟩) hl]; exact h
theorem str_cell_kid {w : World} {base : Nat} {e : TypeId} {n cap : Nat} {V : Option Addr} {L : List (List UInt8)} (h : w.ownsRow base e 1 (.slice V n cap) n (L.map encT)) {a : Nat} (ha : a < n) : ∃ q, V = some ⟨q, 0, none⟩ ∧ w.cell? ⟨q, a, none⟩ = some (.string (Lex.bytes (L.getD a []))) := by
  obtain ⟨q, cap', hv, -, -, -, -⟩ := own_form h (by omega)
  injection hv with h1 h2 h3
  subst h1
  subst h3
  exact ⟨q, rfl, str_cell h ha⟩
/-- A kid's text is not long. -/
theorem kid_len {l : List Nd} (h : mayL l = true) {i : Nat} {n : Nd} (hn : l[i]? = some n) (hl : l.length ≤ 1048576) {a : Nat} : (Lex.bytes ((kidsT (textsTo l i) l n).getD a [])).size ≤ 67108867 := by
  rw [bytes_len]
  have hi := (List.getElem?_eq_some_iff.1 hn).1
  obtain ⟨-, -, hk⟩ := kids_at h hn
  have hx : ∀ (w t : Nat), t < i → (kidX l n w t).length ≤ 67108866 := by
    intro w t ht
    have h1 := kidX_len l n w t
    have h2 := txt_len h t (by omega)
    omega
  unfold kidsT
  rcases hk with ⟨e, -, -⟩ | ⟨t, e, -, -, -, hti⟩ | ⟨t, u, e, -, -, hle, -, htu, hui⟩
  · rw [e]; exact Nat.zero_le _
  · rw [e]
    show ([kidT (textsTo l i) l n 0 (t : Int)].getD a []).length ≤ _
    rw [kidT_at (by omega) (by omega)]
    match a with
    | 0 => exact Nat.le_trans (hx 0 t (by omega)) (by omega)
    | a + 1 => exact Nat.zero_le _
  · rw [e]
    show ([kidT (textsTo l i) l n 0 (t : Int), kidT (textsTo l i) l n 1 (u : Int)].getD a []).length ≤ _
    rw [kidT_at (by omega) (by omega), kidT_at (by omega) (by omega)]
    match a with
    | 0 => exact Nat.le_trans (hx 0 t (by omega)) (by omega)
    | 1 => exact Nat.le_trans (hx 1 u (by omega)) (by omega)
    | a + 2 => exact Nat.zero_le _

set_option maxHeartbeats 40000000 in
set_option maxRecDepth 100000 in
theorem refText (A : Option Addr) (n c : Nat) (l : List Nd) (w : World) (hl : l.length = n) (hn : n ≤ 1048576) (h : Nodes Any w A l) (hT : Tab10 w) :
    Calls Tryd.prog 8 #[.slice A n c] w fun e w' => e = .returned (.string (Lex.bytes (textL l))) ∧ Below w.heap.size w w' := by
  obtain ⟨i0, hi, hz0, hz1, hz2⟩ := info_parts infoStrT
  have hni : (n : Int) ≤ 1048576 := by omega
  have hM := fun W (hb : Below w.heap.size w W) => refMay A n c l W hl hn (h.below hb)
  have HL := Lib.hid hl
  have HD := Lib.hid h
  have HN := Lib.hid hn
  have HTB := Lib.hid (fun W (hb : Below w.heap.size w W) => hT.later hb)
  clear hl hn h hT
  rcases hm : mayL l
  · have HR := Lib.hid (show textL l = [] by unfold textL; rw [hm]; rfl)
    rw [hm] at hM
    have HM := Lib.hid hM
    clear hM hm
    go_enter Tryd.func8, Tryd.ntmps8
    go_wp2_with (go_at_call 17; refine (HM.out _ (Below.refl _ _)).mono ?_; rintro e w1 ⟨rfl, hb1⟩)
    refine bodyPost_ret (v := .string { data := #[] }) (by simp [results, Tryd.results8, go_sem]) rfl ?_
    exact ⟨by rw [HR.out]; rfl, hb1⟩
  · have h0 := may_ne hm
    have hn0 : 0 < n := by rw [← HL.out]; exact h0
    have HR := Lib.hid (textL_eq hm)
    have HMY := Lib.hid hm
    rw [hm] at hM
    have HM := Lib.hid hM
    have b1 : i0.bytes * n ≤ 281474976710656 := by rw [hz2]; have := HN.out; omega
    have b2 : n ≤ maxLen := by unfold maxLen; have := HN.out; omega
    have hn1 : (1 : Int) ≤ (n : Int) := by omega
    have hnn : (0 : Int) ≤ (n : Int) := by omega
    clear hM hm h0
    go_enter Tryd.func8, Tryd.ntmps8
    go_wp2_with (first
      | (go_at_call 17; refine (HM.out _ (Below.refl _ _)).mono ?_; rintro e w1 ⟨rfl, hb1⟩)
      | (at_make; refine wpList_make_full _ rfl _ _ 54 rfl w1.heap.size 9 i0 (.string { data := #[] }) 1 Tryd.underlying54 hi hz0 hz1 .i64 .i64 _ _ n rfl rfl (by first | rfl | omega) (by first | rfl | omega) b1 b2 (Nat.le_refl _) ?_; intro w2 hmade hgr1; rw [made_strs] at hmade))
    have hw1 : w.heap.size ≤ w1.heap.size := hb1.size
    have hB2 : Below w.heap.size w w2 := hb1.trans (((Below.refl _ _).grown hgr1 (Nat.le_refl _) (by simp)).mono hw1)
    have HMD := Lib.hid (show w2.ownsRow w1.heap.size 9 1 (.slice (some ⟨w1.heap.size, 0, none⟩) n n) n ((tRow n 0 l).map encT) from hmade)
    have HB2 := Lib.hid hB2
    clear hmade hB2 hgr1 hb1
    obtain ⟨g, hg⟩ : ∃ g, w1.heap.size = g := ⟨_, rfl⟩
    rw [hg] at hw1 HMD ⊢
    clear hg
    go_loopw [18] (fun i wr => ∃ k : Nat, k ≤ n ∧ i = .int .i64 k ∧ Hid (wr.ownsRow g 9 1 (.slice (some ⟨g, 0, none⟩) n n) n ((tRow n k l).map encT)) ∧ Hid (Below w.heap.size w wr)) (fun i _ => n - (intOf i).toNat)
    case atStart => exact ⟨0, Nat.zero_le _, rfl, HMD.out, HB2.out⟩
    case round =>
      obtain ⟨k, hk, rfl, HRW, HB⟩ := hrel
      by_cases hkn : k < n
      · have hkn' : (k : Int) < (n : Int) := by omega
        have hk0 : (0 : Int) ≤ (k : Int) := by omega
        obtain ⟨b, off, e, hnodes⟩ := HD.out (by have := HL.out; omega)
        obtain ⟨nd, hnd⟩ : ∃ nd, l[k]? = some nd := ⟨_, List.getElem?_eq_getElem (by have := HL.out; omega)⟩
        obtain ⟨x0, x1, x2, x3, s0, s2, s3, s1, K, cK, x4, hK, hKc, hcK, -, -⟩ := hnodes k nd hnd
        rw [Nat.mul_comm 5 k] at x0 x1 x2 x3 x4
        replace x0 := below_cell HB.out x0
        replace x1 := below_cell HB.out x1
        replace x2 := below_cell HB.out x2
        replace x3 := below_cell HB.out x3
        replace x4 := below_cell HB.out x4
        have HNS := Lib.hid hnodes
        have HND := Lib.hid hnd
        have HKA := Lib.hid (kids_at HMY.out hnd)
        obtain ⟨m, hm⟩ : ∃ m, nd.kids.length = m := ⟨_, rfl⟩
        rw [hm] at x4 hK hKc
        have HMK := Lib.hid hm
        have hm2 : m ≤ 2 := by rw [← hm]; exact may_arity HMY.out hnd
        have HRK := Lib.hid hK
        have hm64 : (m : Int) ≤ 9223372036854775807 := by omega
        have HBX := Lib.hid (HB.out.alloc HB.out.size (.cells #[.int .i64 nd.kind, .string nd.name, .int .i64 nd.lo, .int .i64 nd.hi, .slice K m cK] 34))
        have HBN := Lib.hid (show (wr.alloc (.cells #[.int .i64 nd.kind, .string nd.name, .int .i64 nd.lo, .int .i64 nd.hi, .slice K m cK] 34)).heap.size = wr.heap.size + 1 by simp)
        have HGW := Lib.hid (show g < wr.heap.size from HRW.out.lt g rfl |>.2)
        subst e
        clear hnd hnodes hK hm
        go_wp2
        obtain ⟨W0, hW0⟩ : ∃ W0, wr.alloc (.cells #[.int .i64 nd.kind, .string nd.name, .int .i64 nd.lo, .int .i64 nd.hi, .slice K m cK] 34) = W0 := ⟨_, rfl⟩
        have HBK := Lib.hid (Blk.new wr #[.int .i64 nd.kind, .string nd.name, .int .i64 nd.lo, .int .i64 nd.hi, .slice K m cK] 34 _ rfl)
        have HR0 := Lib.hid (HRW.out.alloc (.cells #[.int .i64 nd.kind, .string nd.name, .int .i64 nd.lo, .int .i64 nd.hi, .slice K m cK] 34))
        rw [hW0] at HBX HBN HBK HR0
        have HW0 := Lib.hid hW0
        rw [hW0]
        clear hW0 x0 x1 x2 x3 x4
        go_loopw [6, 26] (fun v i wx => ∃ j : Nat, j ≤ m ∧ i = .int .i64 j ∧ Hid (wx.ownsRow W0.heap.size 9 1 v j ((kidsF (textsTo l k) l nd 0 (nd.kids.take j)).map encT)) ∧ Hid (Below W0.heap.size W0 wx)) (fun _ i _ => m - (intOf i).toNat)
        case atStart => exact ⟨0, Nat.zero_le _, rfl, World.ownsRow_nil _ _ _ _, Below.refl _ _⟩
        case round =>
          obtain ⟨j, hj, rfl, HKR, HBJ⟩ := hrel
          obtain ⟨V, cV, rfl, -, -, -, -⟩ := own_slice HKR.out
          by_cases hjm : j < m
          · have hjm' : (j : Int) < (m : Int) := by omega
            obtain ⟨t, ht, htk, htake⟩ := kid_nat HMY.out HND.out (j := j) (by rw [HMK.out]; exact hjm)
            obtain ⟨nt, hnt⟩ : ∃ nt, l[t]? = some nt := ⟨_, List.getElem?_eq_getElem (by have := HL.out; omega)⟩
            have hka : kindAt l (t : Int) = nt.kind := by unfold kindAt; rw [Int.toNat_natCast, hnt]; rfl
            have hWB := HBX.out.trans (HBJ.out.mono HBX.out.size)
            have y0 := below_cell hWB (HNS.out t nt hnt).1
            rw [Nat.mul_comm 5 t] at y0
            have x0 := (HBK.out.later HBJ.out).cell 0 rfl
            have hc1 := str_cell (below_row HR0.out HBJ.out) (show t < n by omega)
            rw [tRow_low HL.out hk htk] at hc1
            have hlt := txt_len HMY.out t (by have := HL.out; omega)
            obtain ⟨S, hS⟩ : ∃ S, Lex.bytes (txt l t) = S := ⟨_, rfl⟩
            have hsz : S.size ≤ 67108864 := by rw [← hS, bytes_len]; omega
            rw [hS] at hc1
            have htn : (t : Int) < (n : Int) := by omega
            have ht0 : (0 : Int) ≤ (t : Int) := by omega
            have hj0 : (0 : Int) ≤ (j : Int) := by omega
            obtain ⟨bk, ok, eK, hkc⟩ := (HRK.out.below hWB).cell (by omega)
            have ck := hkc j hjm
            rw [ht] at ck
            subst eK
            have HBA := Lib.hid (fun W => refBare nd.kind nt.kind j W (by omega))
            have HS := Lib.hid hS
            have HKX := Lib.hid (show kidsF (textsTo l k) l nd 0 (nd.kids.take (j + 1)) = kidsF (textsTo l k) l nd 0 (nd.kids.take j) ++ [kidX l nd j t] by
              rw [htake, kidsF_snoc, List.length_take, HMK.out, show 0 + min j m = j by omega, kidT_at htk (by have := HL.out; omega)])
            have HKD := Lib.hid hka
            have z1 : ¬ 9223372036854775807 < 1 + S.size := by omega
            have z2 : ¬ 9223372036854775807 < 1 + S.size + 1 := by omega
            have HQL := Lib.hid (show j ≤ 1048576 by omega)
            clear hkc ht htake hnt hka hWB hlt hS hsz
            obtain ⟨bb, hbb⟩ : ∃ bb, bare nd.kind j nt.kind = bb := ⟨_, rfl⟩
            rw [hbb] at HBA
            have HBB := Lib.hid hbb
            clear hbb
            cases bb
            · have HXV := Lib.hid (show kidX l nd j t = [40] ++ txt l t ++ [41] by unfold kidX; rw [HKD.out, HBB.out]; rfl)
              go_wp2_with fail
              go_quiet ((go_at_call 18; exact quiet_left ⟨_, rfl⟩ (HBA.out _)))
              have HKQ := Lib.hid (below_row HKR.out (bel_drewN wr nq wr.heap.size))
              go_wp2_with (at_builtin; go_loud (refine wpList_append_one rfl (.tmp 48) (.tmp 50) 54 rfl W0.heap.size 9 i0 _ 16 Tryd.underlying54 hi hz0 hz1 hz2 rfl (by decide) _ j _ (by rfl) HKQ.out (.string ({ data := #[40] } ++ S ++ { data := #[41] })) rfl _ _ rfl wr.heap.size rfl (by rfl) HQL.out HBJ.out.size ?_; intro v3 w3 hown3 hgr3 _))
              go_roundw
              case rel => exact ⟨j + 1, by omega, by go_num, by
                rw [HKX.out, List.map_append, HXV.out]
                have e : Lex.bytes ([40] ++ txt l t ++ [41]) = { data := #[40] } ++ S ++ { data := #[41] } := by rw [bytes_app, bytes_app, HS.out]; rfl
                show Hid (w3.ownsRow _ _ 1 _ _ (_ ++ [encT _]))
                rw [show encT ([40] ++ txt l t ++ [41]) = .string ({ data := #[40] } ++ S ++ { data := #[41] }) from congrArg Value.string e]
                exact hown3, ((HBJ.out.trans (bel_drewN _ _ _)).alloc HBJ.out.size _).grown hgr3 (le_alloc HBJ.out.size) (fun z hz => (HKQ.out.lt z hz).1)⟩
              case measure => simp [intOf]; omega
            · have HXV := Lib.hid (show kidX l nd j t = txt l t by unfold kidX; rw [HKD.out, HBB.out]; rfl)
              go_wp2_with fail
              go_quiet ((go_at_call 18; exact quiet_left ⟨_, rfl⟩ (HBA.out _)))
              have HKQ := Lib.hid (below_row HKR.out (bel_drewN wr nq wr.heap.size))
              go_wp2_with (at_builtin; go_loud (refine wpList_append_one rfl (.tmp 48) (.tmp 50) 54 rfl W0.heap.size 9 i0 _ 16 Tryd.underlying54 hi hz0 hz1 hz2 rfl (by decide) _ j _ (by rfl) HKQ.out (.string S) rfl _ _ rfl wr.heap.size rfl (by rfl) HQL.out HBJ.out.size ?_; intro v3 w3 hown3 hgr3 _))
              go_roundw
              case rel => exact ⟨j + 1, by omega, by go_num, by
                rw [HKX.out, List.map_append, HXV.out]
                show Hid (w3.ownsRow _ _ 1 _ _ (_ ++ [encT _]))
                rw [show encT (txt l t) = .string S from congrArg Value.string HS.out]
                exact hown3, ((HBJ.out.trans (bel_drewN _ _ _)).alloc HBJ.out.size _).grown hgr3 (le_alloc HBJ.out.size) (fun z hz => (HKQ.out.lt z hz).1)⟩
              case measure => simp [intOf]; omega
          · have e : j = m := by omega
            subst e
            have hge : decide ((j : Int) < (j : Int)) = false := by simp
            have HKS := Lib.hid (show kidsF (textsTo l k) l nd 0 (nd.kids.take j) = kidsT (textsTo l k) l nd by rw [List.take_of_length_le (by rw [HMK.out]; exact Nat.le_refl _)]; rfl)
            have HKL := Lib.hid (show (kidsT (textsTo l k) l nd).length = j by unfold kidsT; rw [kidsF_len, HMK.out])
            have hkr := HKR.out
            rw [HKS.out] at hkr
            have hx := HBK.out.later HBJ.out
            have x0 := hx.cell 0 rfl
            have x1 := hx.cell 1 rfl
            have x2 := hx.cell 2 rfl
            have x3 := hx.cell 3 rfl
            have x4 := hx.cell 4 rfl
            have HWB := Lib.hid (HBX.out.trans (HBJ.out.mono HBX.out.size))
            have HRR := Lib.hid (below_row HR0.out HBJ.out)
            have hf := HRR.out.frozenAt k
            have hck := str_cell HRR.out hkn
            obtain ⟨TK, hTK⟩ : ∃ TK, Lex.bytes ((tRow n k l).getD k []) = TK := ⟨_, rfl⟩
            rw [hTK] at hck
            clear hTK
            have HSET := Lib.hid (fun (S : ByteArray) (hS : Lex.bytes (nodeT nd (kidsT (textsTo l k) l nd)) = S) (wy : World) (hr : wy.ownsRow g 9 1 (.slice (some ⟨g, 0, none⟩) n n) n ((tRow n k l).map encT)) => show Hid ((wy.setCell ⟨g, k, none⟩ (.string S)).ownsRow g 9 1 (.slice (some ⟨g, 0, none⟩) n n) n ((tRow n (k + 1) l).map encT)) by
              have := str_set hr k (nodeT nd (kidsT (textsTo l k) l nd))
              rw [tRow_set HL.out HND.out, hS] at this
              exact this)
            have HKN := Lib.hid (fun (a : Nat) (ha : a < j) => str_cell_kid hkr ha)
            have HLT := Lib.hid (fun (a : Nat) => kid_len HMY.out HND.out (a := a) (by have := HL.out; omega))
            have HWD := Lib.hid (fun (hr : 1 ≤ nd.kind ∧ nd.kind ≤ 22) W (hb : Below wr.heap.size wr W) => refWord nd K j cK W (HTB.out W (HWB.out.trans (hb.mono HWB.out.size))) hr)
            have hwl := word_len nd
            obtain ⟨WD, hWD⟩ : ∃ WD, Lex.bytes (word nd) = WD := ⟨_, rfl⟩
            have hws : WD.size ≤ 50 := by rw [← hWD, bytes_len]; exact hwl
            rw [hWD] at HWD
            have HWE := Lib.hid hWD
            clear hWD hwl hkr hx
            obtain ⟨hfl, -, hways⟩ := HKA.out
            have hrange : 1 ≤ nd.kind ∧ nd.kind ≤ 22 := by
              unfold fieldsB at hfl
              rw [Bool.and_eq_true, kinds_range] at hfl
              exact hfl.1
            have HRG := Lib.hid hrange
            rcases hways with ⟨e0, e1, -⟩ | ⟨t1, e0, e1, -⟩ | ⟨t1, t2, e0, e1, -⟩
            · have hj0 : j = 0 := by rw [← HMK.out, e0]; rfl
              have hkk : nd.kind = 1 ∨ nd.kind = 2 ∨ nd.kind = 3 ∨ nd.kind = 18 := by
                unfold kidc at e1
                split at e1
                · next h => simpa [none0] using h
                · split at e1 <;> cases e1
              clear e0 e1 hrange hfl
              rcases hkk with hkk | hkk | hkk | hkk
              all_goals
                have HKK := Lib.hid hkk
                rw [hkk] at x0
                clear hkk
                go_wp2_with fail
                go_roundw
                case rel => exact ⟨k + 1, by omega, by go_num, HSET.out _ (by unfold nodeT; simp only [HKK.out]; first | rfl | exact bytes_self _) wr HRR.out, HWB.out.setCell hw1 _⟩
                case measure => simp [intOf]; omega
            · have hj1 : j = 1 := by rw [← HMK.out, e0]; rfl
              have hkk : (nd.kind = 4 ∨ nd.kind = 19 ∨ nd.kind = 22) ∨ (nd.kind = 16 ∨ nd.kind = 17) ∨ ((nd.kind == 1) = false ∧ (nd.kind == 2) = false ∧ (nd.kind == 3) = false ∧ (nd.kind == 18) = false ∧ (nd.kind == 4) = false ∧ (nd.kind == 19) = false ∧ (nd.kind == 22) = false ∧ (nd.kind == 16) = false ∧ (nd.kind == 17) = false ∧ 8 ≤ nd.kind ∧ nd.kind ≤ 13) := by
                unfold kidc at e1
                split at e1
                · cases e1
                · next h0 =>
                  split at e1
                  · cases e1
                  · next h1 =>
                    simp only [none0, twos, List.mem_cons, List.not_mem_nil, or_false, not_or] at h0 h1
                    simp only [beq_eq_false_iff_ne]
                    omega
              obtain ⟨q, rfl, c0⟩ := HKN.out 0 (by rw [hj1]; exact Nat.zero_lt_one)
              have hz0 := HLT.out 0
              obtain ⟨K0, hK0⟩ : ∃ K0, Lex.bytes ((kidsT (textsTo l k) l nd).getD 0 []) = K0 := ⟨_, rfl⟩
              rw [hK0] at c0 hz0
              have HK0 := Lib.hid hK0
              have HL1 := Lib.hid (show (kidsT (textsTo l k) l nd).length = 1 by rw [HKL.out, hj1])
              have hq := Lib.hid (show q < wr.heap.size from (HKR.out.lt q rfl).2)
              have z1 : ¬ 9223372036854775807 < 1 + K0.size := by omega
              have z2 : ¬ 9223372036854775807 < K0.size + 1 := by omega
              subst hj1
              clear e0 e1 hrange hfl hK0
              rcases hkk with hkk | hkk | ⟨a1, a2, a3, a4, a5, a6, a7, a8, a9, hlo8, hhi13⟩
              · rcases hkk with hkk | hkk | hkk
                all_goals
                  have HKK := Lib.hid hkk
                  rw [hkk] at x0
                  clear hkk
                  go_wp2_with fail
                  go_roundw
                  case rel => exact ⟨k + 1, by omega, by go_num, HSET.out _ (by unfold nodeT; simp only [HKK.out]; show Lex.bytes (_ ++ _) = _; rw [bytes_app, HK0.out]; rfl) wr HRR.out, HWB.out.setCell hw1 _⟩
                  case measure => simp [intOf]; omega
              · have HGR := Lib.hid (show g < wr.heap.size from (HRR.out.lt g rfl).2)
                rcases hkk with hkk | hkk
                all_goals
                  have HKK := Lib.hid hkk
                  have HWX := Lib.hid (HWD.out HRG.out)
                  rw [hkk] at x0 HWX
                  clear hkk z1 z2
                  have HEQ := Lib.hid (show Lex.bytes (nodeT nd (kidsT (textsTo l k) l nd)) = WD ++ { data := #[32, 123] } ++ K0 ++ { data := #[125] } by
                    unfold nodeT
                    simp only [HKK.out]
                    show Lex.bytes (word nd ++ [32, 123] ++ _ ++ [125]) = _
                    rw [bytes_app, bytes_app, bytes_app, HWE.out, HK0.out]
                    rfl)
                  have y1 : ¬ 9223372036854775807 < WD.size + 2 := by omega
                  have y2 : ¬ 9223372036854775807 < WD.size + 2 + K0.size := by omega
                  have y3 : ¬ 9223372036854775807 < WD.size + 2 + K0.size + 1 := by omega
                  go_wp2_with fail
                  go_region_with (go_at_call 19; refine (HWX.out _ (by first | exact Below.refl _ _ | exact bel_drewN _ _ _ | exact (Below.refl _ _).drew)).mono ?_; rintro e w4 ⟨rfl, hb4⟩; have hb5 : Below wr.heap.size wr w4 := (by first | exact hb4 | exact (Below.refl wr.heap.size wr).drew.trans hb4 | exact (bel_drewN wr _ wr.heap.size).trans hb4); have d0 := below_cell hb5 c0; have dk := below_cell hb5 hck; have df := below_fz hb5 HGR.out hf)
                  all_goals
                    go_wp2_with fail
                    go_roundw
                    case rel => first
                      | exact ⟨k + 1, by omega, by go_num, HSET.out _ HEQ.out _ (below_row HRR.out hb5), (HWB.out.trans (hb5.mono HWB.out.size)).setCell hw1 _⟩
                      | exact ⟨k + 1, by omega, by go_num, HSET.out _ HEQ.out _ (below_row HRR.out hb5), ((HWB.out.trans (hb5.mono HWB.out.size)).setCell hw1 _).drew⟩
                      | exact ⟨k + 1, by omega, by go_num, HSET.out _ HEQ.out _ (below_row HRR.out hb5), ((HWB.out.trans (hb5.mono HWB.out.size)).drew).setCell hw1 _⟩
                    case measure => simp [intOf]; omega
              · have HGR := Lib.hid (show g < wr.heap.size from (HRR.out.lt g rfl).2)
                have HWX := Lib.hid (HWD.out HRG.out)
                have HEQ := Lib.hid (show Lex.bytes (nodeT nd (kidsT (textsTo l k) l nd)) = WD ++ { data := #[32] } ++ K0 by
                  unfold nodeT
                  rw [if_neg (by omega), if_neg (by omega), if_neg (by omega), if_neg (by omega), if_neg (by omega), if_neg (by omega), if_neg (by omega), if_neg (by omega), if_pos HL1.out]
                  rw [bytes_app, bytes_app, HWE.out, HK0.out]
                  rfl)
                clear z1 z2 hlo8 hhi13
                have y1 : ¬ 9223372036854775807 < WD.size + 1 := by omega
                have y2 : ¬ 9223372036854775807 < WD.size + 1 + K0.size := by omega
                go_wp2_with fail
                go_region_with (go_at_call 19; refine (HWX.out _ (by first | exact Below.refl _ _ | exact bel_drewN _ _ _ | exact (Below.refl _ _).drew)).mono ?_; rintro e w4 ⟨rfl, hb4⟩; have hb5 : Below wr.heap.size wr w4 := (by first | exact hb4 | exact (Below.refl wr.heap.size wr).drew.trans hb4 | exact (bel_drewN wr _ wr.heap.size).trans hb4); have d0 := below_cell hb5 c0; have dk := below_cell hb5 hck; have df := below_fz hb5 HGR.out hf)
                all_goals
                  go_wp2_with fail
                  go_roundw
                  case rel => first
                    | exact ⟨k + 1, by omega, by go_num, HSET.out _ HEQ.out _ (below_row HRR.out hb5), (HWB.out.trans (hb5.mono HWB.out.size)).setCell hw1 _⟩
                    | exact ⟨k + 1, by omega, by go_num, HSET.out _ HEQ.out _ (below_row HRR.out hb5), ((HWB.out.trans (hb5.mono HWB.out.size)).setCell hw1 _).drew⟩
                    | exact ⟨k + 1, by omega, by go_num, HSET.out _ HEQ.out _ (below_row HRR.out hb5), ((HWB.out.trans (hb5.mono HWB.out.size)).drew).setCell hw1 _⟩
                  case measure => simp [intOf]; omega
            · have hj2 : j = 2 := by rw [← HMK.out, e0]; rfl
              have hkk : (nd.kind == 1) = false ∧ (nd.kind == 2) = false ∧ (nd.kind == 3) = false ∧ (nd.kind == 18) = false ∧ (nd.kind == 4) = false ∧ (nd.kind == 19) = false ∧ (nd.kind == 22) = false ∧ (nd.kind == 16) = false ∧ (nd.kind == 17) = false := by
                unfold kidc at e1
                split at e1
                · cases e1
                · split at e1
                  · next h1 =>
                    simp only [twos, List.mem_cons, List.not_mem_nil, or_false] at h1
                    simp only [beq_eq_false_iff_ne]
                    omega
                  · cases e1
              have HNE := Lib.hid hkk
              obtain ⟨a1, a2, a3, a4, a5, a6, a7, a8, a9⟩ := hkk
              obtain ⟨q, rfl, c0⟩ := HKN.out 0 (by rw [hj2]; decide)
              obtain ⟨q', hq', c1⟩ := HKN.out 1 (by rw [hj2]; decide)
              have hqq : q' = q := by injection hq' with hq'; injection hq' with hq'; exact hq'.symm
              subst hqq
              have hz0 := HLT.out 0
              have hz3 := HLT.out 1
              obtain ⟨K0, hK0⟩ : ∃ K0, Lex.bytes ((kidsT (textsTo l k) l nd).getD 0 []) = K0 := ⟨_, rfl⟩
              obtain ⟨K1, hK1⟩ : ∃ K1, Lex.bytes ((kidsT (textsTo l k) l nd).getD 1 []) = K1 := ⟨_, rfl⟩
              rw [hK0] at c0 hz0
              rw [hK1] at c1 hz3
              have HK0 := Lib.hid hK0
              have HK1 := Lib.hid hK1
              have HL1 := Lib.hid (show (kidsT (textsTo l k) l nd).length ≠ 1 by rw [HKL.out, hj2]; decide)
              subst hj2
              have HGR := Lib.hid (show g < wr.heap.size from (HRR.out.lt g rfl).2)
              have HWX := Lib.hid (HWD.out HRG.out)
              have HEQ := Lib.hid (show Lex.bytes (nodeT nd (kidsT (textsTo l k) l nd)) = K0 ++ { data := #[32] } ++ WD ++ { data := #[32] } ++ K1 by
                have hne := HNE.out
                simp only [beq_eq_false_iff_ne] at hne
                unfold nodeT
                rw [if_neg (by omega), if_neg (by omega), if_neg (by omega), if_neg (by omega), if_neg (by omega), if_neg (by omega), if_neg (by omega), if_neg (by omega), if_neg HL1.out]
                rw [bytes_app, bytes_app, bytes_app, bytes_app, HWE.out, HK0.out, HK1.out]
                rfl)
              clear e0 e1 hrange hfl hK0 hK1 hq'
              have y1 : ¬ 9223372036854775807 < K0.size + 1 := by omega
              have y2 : ¬ 9223372036854775807 < K0.size + 1 + WD.size := by omega
              have y3 : ¬ 9223372036854775807 < K0.size + 1 + WD.size + 1 := by omega
              have y4 : ¬ 9223372036854775807 < K0.size + 1 + WD.size + 1 + K1.size := by omega
              go_wp2_with fail
              go_region_with (go_at_call 19; refine (HWX.out _ (by first | exact Below.refl _ _ | exact bel_drewN _ _ _ | exact (Below.refl _ _).drew)).mono ?_; rintro e w4 ⟨rfl, hb4⟩; have hb5 : Below wr.heap.size wr w4 := (by first | exact hb4 | exact (Below.refl wr.heap.size wr).drew.trans hb4 | exact (bel_drewN wr _ wr.heap.size).trans hb4); have d0 := below_cell hb5 c0; have d1 := below_cell hb5 c1; have dk := below_cell hb5 hck; have df := below_fz hb5 HGR.out hf)
              all_goals
                go_wp2_with fail
                go_roundw
                case rel => first
                  | exact ⟨k + 1, by omega, by go_num, HSET.out _ HEQ.out _ (below_row HRR.out hb5), (HWB.out.trans (hb5.mono HWB.out.size)).setCell hw1 _⟩
                  | exact ⟨k + 1, by omega, by go_num, HSET.out _ HEQ.out _ (below_row HRR.out hb5), ((HWB.out.trans (hb5.mono HWB.out.size)).setCell hw1 _).drew⟩
                  | exact ⟨k + 1, by omega, by go_num, HSET.out _ HEQ.out _ (below_row HRR.out hb5), ((HWB.out.trans (hb5.mono HWB.out.size)).drew).setCell hw1 _⟩
                case measure => simp [intOf]; omega
      · have e : k = n := by omega
        subst e
        have hge : decide ((k : Int) < (k : Int)) = false := by simp
        have hrow := HRW.out
        rw [tRow_done] at hrow
        have hc1 := str_cell hrow (show k - 1 < k by omega)
        rw [texts_at (show k - 1 < k by omega) (by rw [HL.out]; exact Nat.le_refl _)] at hc1
        have hlast : txt l (k - 1) = textL l := by rw [HR.out, HL.out]
        rw [hlast] at hc1
        have hk1 : (0 : Int) ≤ (k : Int) - 1 := by omega
        have hk2 : ((k : Int) - 1).toNat = k - 1 := by omega
        clear hrow hlast
        go_wp2_with fail
        refine bodyPost_ret (v := .string (Lex.bytes (textL l))) (by simp [results, Tryd.results8, go_sem]) rfl ?_
        exact ⟨rfl, HB.out⟩
end Go.Proofs.YtmjfopggehopjaaDoor.Show
