/-
  The walk of the law ShowLeast. By an AI agent.
-/
import Derived.Test.YthcbgneoonekkaaGreatDoorGShowBack49
import Derived.Test.YthcbgneoonekkaaGreatDoorGShowBack16
namespace Go.Proofs.YthcbgneoonekkaaGreatDoor.Show
open Go.RowKit Go.Proofs.YthcbgneoonekkaaGreatDoor.Tree Go.Proofs.YthcbgneoonekkaaGreatDoor.Itoa Go.Proofs.YthcbgneoonekkaaGreatDoor.Ints

theorem byte_is {c : UInt8} {k : Nat} (hk : k < 256) : (c = UInt8.ofNat k) ↔ (c.toNat : Int) = (k : Int) := by
  constructor
  · rintro rfl
    rw [UInt8.toNat_ofNat']
    omega
  · intro h
    apply UInt8.toNat_inj.1
    rw [UInt8.toNat_ofNat']
    omega
/-- The place p of the text holds an opening bracket. -/
def OpenAt (s : ByteArray) (p : Nat) : Prop := ∃ h : p < s.size, s[p] = 40
/-- The scan from behind the bracket on: e brackets stand open yet. -/
def Scan (s : ByteArray) (i : Nat) (e : Nat) : Prop := ∃ h, goes (s.data.toList.drop i) (h + e) = some 0
theorem scan_start {s : ByteArray} {p : Nat} (hp : goes s.data.toList 0 = some 0) (ho : OpenAt s p) : Scan s (p + 1) 1 := by
  obtain ⟨hlt, hc⟩ := ho
  obtain ⟨h, hh⟩ := goes_drop p _ _ _ hp
  rw [Lex.drop_get s p hlt, hc] at hh
  have hh : (if (40 : UInt8) = 40 then goes (s.data.toList.drop (p + 1)) (h + 1) else _) = some 0 := hh
  rw [if_pos rfl] at hh
  exact ⟨h, hh⟩
theorem scan_open {s : ByteArray} {i e : Nat} (hi : i < s.size) (hc : s[i] = 40) (h : Scan s i e) : Scan s (i + 1) (e + 1) := by
  obtain ⟨d, hd⟩ := h
  rw [Lex.drop_get s i hi, hc] at hd
  have hd : (if (40 : UInt8) = 40 then goes (s.data.toList.drop (i + 1)) (d + e + 1) else _) = some 0 := hd
  rw [if_pos rfl] at hd
  exact ⟨d, hd⟩
theorem scan_close {s : ByteArray} {i e : Nat} (hi : i < s.size) (hc : s[i] = 41) (h : Scan s i (e + 1)) : Scan s (i + 1) e := by
  obtain ⟨d, hd⟩ := h
  rw [Lex.drop_get s i hi, hc] at hd
  have hd : (if (41 : UInt8) = 40 then _ else if (41 : UInt8) = 41 then (if d + (e + 1) = 0 then none else goes (s.data.toList.drop (i + 1)) (d + (e + 1) - 1)) else _) = some 0 := hd
  rw [if_neg (by decide), if_pos rfl, if_neg (by omega), show d + (e + 1) - 1 = d + e by omega] at hd
  exact ⟨d, hd⟩
theorem scan_other {s : ByteArray} {i e : Nat} (hi : i < s.size) (h1 : s[i] ≠ 40) (h2 : s[i] ≠ 41) (h : Scan s i e) : Scan s (i + 1) e := by
  obtain ⟨d, hd⟩ := h
  rw [Lex.drop_get s i hi] at hd
  have hd : (if s[i] = 40 then _ else if s[i] = 41 then _ else goes (s.data.toList.drop (i + 1)) (d + e)) = some 0 := hd
  rw [if_neg h1, if_neg h2] at hd
  exact ⟨d, hd⟩
theorem scan_end {s : ByteArray} {i e : Nat} (hi : s.size ≤ i) (h : Scan s i e) : e = 0 := by
  obtain ⟨d, hd⟩ := h
  rw [Lex.drop_end s i hi] at hd
  have hd : some (d + e) = some 0 := hd
  injection hd
  omega
/-- Without one of its brackets a text is another formula's, or none's. -/
theorem least_count {f l : List Nd} {s : ByteArray} {a b p : Nat} (hs : s.data.toList = textL f) (ha : OpenAt s a) (hab : a < b) (hb : b < s.size) (hx : Parse.parseS false (s.extract 0 a ++ s.extract (a + 1) b ++ s.extract (b + 1) s.size).data.toList = (l, p, 0)) : l ≠ f := by
  rintro rfl
  have h1 := parse_count hx
  rw [← hs] at h1
  obtain ⟨hlt, hc⟩ := ha
  have e0 : s.data.toList = s.data.toList.take a ++ s.data.toList.drop a := (List.take_append_drop a _).symm
  have e1 := Lex.drop_get s a hlt
  rw [hc] at e1
  have e2 : (s.extract 0 a ++ s.extract (a + 1) b ++ s.extract (b + 1) s.size).data.toList = s.data.toList.take a ++ (s.data.toList.drop (a + 1)).take (b - (a + 1)) ++ s.data.toList.drop (b + 1) := by
    rw [Lex.extract_bytes s 0 a a (by omega), Lex.extract_bytes s (a + 1) (b - (a + 1)) b (by omega), Lex.extract_bytes s (b + 1) (s.size - (b + 1)) s.size (by omega), list_app, list_app]
    show (s.data.toList.drop 0).take a ++ (s.data.toList.drop (a + 1)).take (b - (a + 1)) ++ (s.data.toList.drop (b + 1)).take (s.size - (b + 1)) = _
    rw [List.drop_zero, List.take_of_length_le (l := s.data.toList.drop (b + 1)) (by rw [List.length_drop, Array.length_toList]; exact Nat.le_refl _)]
  rw [e2] at h1
  have h2 : ((s.data.toList.drop (a + 1)).take (b - (a + 1))).count 40 + (s.data.toList.drop (b + 1)).count 40 ≤ (s.data.toList.drop (a + 1)).count 40 := by
    have e3 : s.data.toList.drop (a + 1) = (s.data.toList.drop (a + 1)).take (b - (a + 1)) ++ (s.data.toList.drop (a + 1)).drop (b - (a + 1)) := (List.take_append_drop _ _).symm
    have e4 : (s.data.toList.drop (a + 1)).drop (b - (a + 1)) = s.data.toList.drop b := by rw [List.drop_drop]; congr 1; omega
    have e5 : (s.data.toList.drop (b + 1)).count 40 ≤ (s.data.toList.drop b).count 40 := by
      have : s.data.toList.drop (b + 1) = (s.data.toList.drop b).drop 1 := by rw [List.drop_drop]
      rw [this]
      exact (List.drop_sublist 1 _).count_le 40
    have e6 := congrArg (List.count 40) e3
    rw [List.count_append, e4] at e6
    omega
  have h3 : s.data.toList.count 40 = (s.data.toList.take a).count 40 + ((s.data.toList.drop (a + 1)).count 40 + 1) := by
    have e7 := congrArg (List.count 40) e0
    rw [List.count_append, e1, List.count_cons_self] at e7
    exact e7
  rw [List.count_append, List.count_append] at h1
  omega

set_option maxHeartbeats 40000000 in
set_option maxRecDepth 100000 in
theorem lawLeast7 (A : Option Addr) (n c : Nat) (zs : List Int) (which : Int) (w : World) (h : Rd .u16 w A n zs) (hn : n ≤ maxLen) (hwh : 0 ≤ which ∧ which ≤ 255) (hT : Tabs w) :
    Calls Tryz.prog 4 #[.slice A n c, .int .u8 which] w fun e w' => e = .returned (.bool true) ∧ Below w.heap.size w w' := by
  obtain ⟨i0, hi, hz0, hz1, hz2⟩ := info_parts infoInt
  have HMK := Lib.hid (lawMake A n c zs false w h hn)
  have hz := fun z hz => wf_u16 (h.all z hz)
  have hmo := make_ok false zs hz
  obtain ⟨F, hF⟩ : ∃ F, makeL false zs = F := ⟨_, rfl⟩
  rw [hF] at HMK hmo
  have HMO := Lib.hid hmo
  have HTB := Lib.hid (fun W (hb : Below w.heap.size w W) => hT.later hb)
  have HAW := Lib.hid (fun W (hb : Below w.heap.size w W) => awake W (hT.later hb))
  obtain ⟨hw0, hw1⟩ := hwh
  clear h hn hz hT hmo hF
  go_enter Tryz.func4, Tryz.ntmps4
  go_wp2_with fail
  refine HMK.out.mono ?_
  rintro e w1 ⟨A1, c1, rfl, hN1, -, -, hb1⟩
  have HN1 := Lib.hid hN1
  have HB1 := Lib.hid hb1
  clear hN1 hb1
  obtain ⟨n1, hn1⟩ : ∃ n, F.length = n := ⟨_, rfl⟩
  have HL1 := Lib.hid (And.intro hn1 (show n1 ≤ 100 by rw [← hn1]; exact HMO.out.2))
  rw [hn1]
  clear hn1
  go_wp2_with fail
  refine (landText A1 n1 c1 F w1 HL1.out.1 (by have := HL1.out.2; omega) HN1.out (HTB.out _ HB1.out)).mono ?_
  rintro e w2 ⟨rfl, hb2⟩
  have HB2 := Lib.hid (HB1.out.trans (hb2.mono HB1.out.size))
  have HN2 := Lib.hid (HN1.out.below hb2)
  clear hb2
  obtain ⟨S, hS⟩ : ∃ S, Lex.bytes (textL F) = S := ⟨_, rfl⟩
  have hS2 : S.data.toList = textL F := by rw [← hS]; rfl
  have hz6 : S.size ≤ 6400 := by
    have h1 : S.size = (textL F).length := by rw [← hS]; rfl
    have := textL_len HMO.out.1.1
    have := HMO.out.2
    omega
  have HPR := Lib.hid (show goes S.data.toList 0 = some 0 by rw [hS2]; exact text_pairs HMO.out.1.1)
  have HSL := Lib.hid hS2
  rw [hS]
  clear hS hS2
  have hs64 : (S.size : Int) ≤ 6400 := by omega
  have hs0 : (0 : Int) ≤ (S.size : Int) := by omega
  go_wp2_with fail
  go_loopw [7, 22] (fun v i wr => ∃ (j : Nat) (O : List Int), j ≤ S.size ∧ i = .int .i64 (j : Int) ∧ Hid (wr.ownsRow w2.heap.size 3 1 v O.length (O.map (Value.int .i64))) ∧ Hid (∀ x ∈ O, ∃ p : Nat, x = (p : Int) ∧ OpenAt S p) ∧ Hid (O.length ≤ j) ∧ Hid (Below w2.heap.size w2 wr)) (fun _ i _ => S.size - (intOf i).toNat)
  case atStart => exact ⟨0, [], Nat.zero_le _, rfl, World.ownsRow_nil _ _ _ _, (show ∀ x ∈ ([] : List Int), ∃ p : Nat, x = (p : Int) ∧ OpenAt S p from fun x hx => absurd hx (List.not_mem_nil)), Nat.le_refl _, Below.refl _ _⟩
  case round =>
    obtain ⟨j, O, hj, rfl, HRW, HO, HOJ, HB⟩ := hrel
    obtain ⟨V, cV, rfl, -, -, -, -⟩ := own_slice HRW.out
    obtain ⟨q, hq⟩ : ∃ q, O.length = q := ⟨_, rfl⟩
    have HRQ := Lib.hid (show wr.ownsRow w2.heap.size 3 1 (.slice V q cV) q (O.map (Value.int .i64)) by have := HRW.out; rw [hq] at this; exact this)
    have HQ := Lib.hid hq
    rw [hq] at HOJ ⊢
    clear hq HRW
    have hqj := HOJ.out
    have hq64 : (q : Int) ≤ 6400 := by omega
    have hq0 : (0 : Int) ≤ (q : Int) := by omega
    by_cases hjs : j < S.size
    · have hjs' : (j : Int) < (S.size : Int) := by omega
      have hj0 : (0 : Int) ≤ (j : Int) := by omega
      obtain ⟨cc, hc⟩ : ∃ cc, S[j] = cc := ⟨_, rfl⟩
      by_cases h40 : cc = 40
      · have hx : ((cc.toNat : Int) == 40) = true := by rw [h40]; rfl
        have hx2 : (cc.toNat == 40) = true := by rw [h40]; rfl
        have HOP := Lib.hid (show OpenAt S j from ⟨hjs, by rw [hc]; exact h40⟩)
        clear h40
        go_wp2_with (at_builtin; go_loud (refine wpList_append_int1 rfl (.tmp 29) (.tmp 31) 32 rfl .i64 w2.heap.size 3 i0 Tryz.underlying32 hi hz0 hz1 hz2 _ q O (by rfl) HRQ.out (j : Int) _ _ (by rfl) wr.heap.size rfl (by rfl) (by omega) HB.out.size ?_; intro v3 w3 hown3 hgr3 _))
        go_roundw
        case rel =>
          refine ⟨j + 1, O ++ [(j : Int)], by omega, by go_num, ?_, ?_, ?_, ?_⟩
          · rw [List.length_append, HQ.out]; exact hown3
          · intro x hx
            rcases List.mem_append.1 hx with hx | hx
            · exact HO.out x hx
            · exact ⟨j, List.mem_singleton.1 hx, HOP.out⟩
          · show (O ++ [(j : Int)]).length ≤ j + 1
            rw [List.length_append, HQ.out, List.length_singleton]; omega
          · exact (HB.out.alloc HB.out.size _).grown hgr3 (by simp; have := HB.out.size; omega) (fun z hz => (HRQ.out.lt z hz).1)
        case measure => simp [intOf]; omega
      · have hx : ((cc.toNat : Int) == 40) = false := beq_eq_false_iff_ne.2 (fun e => h40 ((byte_is (k := 40) (by decide)).2 e))
        have hx2 : (cc.toNat == 40) = false := beq_eq_false_iff_ne.2 (fun e => h40 ((byte_is (k := 40) (by decide)).2 (by omega)))
        clear h40
        go_wp2_with fail
        go_roundw
        case rel => exact ⟨j + 1, O, by omega, by go_num, by rw [HQ.out]; exact HRQ.out, HO.out, by (show O.length ≤ j + 1); rw [HQ.out]; omega, HB.out⟩
        case measure => simp [intOf]; omega
    · have e : j = S.size := by omega
      subst e
      have hge : decide ((S.size : Int) < (S.size : Int)) = false := by simp
      by_cases hq0' : q = 0
      · subst hq0'
        go_wp2_with (go_at_call 11; refine (HAW.out _ (HB2.out.trans (HB.out.mono HB2.out.size))).mono ?_; rintro e w9 ⟨rfl, hb9⟩)
        go_ret
        exact ⟨rfl, (HB2.out.trans (HB.out.mono HB2.out.size)).trans (hb9.mono (HB2.out.trans (HB.out.mono HB2.out.size)).size)⟩
      · have hqp : (0 : Int) < (q : Int) := by omega
        have hqn : ((q : Int) == 0) = false := beq_eq_false_iff_ne.2 (by omega)
        have hqn2 : (q == 0) = false := beq_eq_false_iff_ne.2 hq0'
        obtain ⟨k, hk⟩ : ∃ k : Nat, which % (q : Int) = (k : Int) := Int.eq_ofNat_of_zero_le (Int.emod_nonneg _ (by omega))
        have hkq : k < q := by have := Int.emod_lt_of_pos which hqp; omega
        have hkq' : (k : Int) < (q : Int) := by omega
        have hk0 : (0 : Int) ≤ (k : Int) := by omega
        obtain ⟨g, cap, hv, -, -, -, -⟩ := own_form HRQ.out (by omega)
        injection hv with hv1 hv2 hv3
        subst hv1
        subst hv3
        have hck := own_cell HRQ.out hkq
        obtain ⟨a, ha, HOA⟩ : ∃ a : Nat, O[k]?.getD 0 = (a : Int) ∧ Hid (OpenAt S a) := by
          have hkl : k < O.length := by rw [HQ.out]; exact hkq
          obtain ⟨p, hp1, hp2⟩ := HO.out (O[k]) (List.getElem_mem hkl)
          exact ⟨p, by rw [List.getElem?_eq_getElem hkl]; exact hp1, hp2⟩
        rw [ha] at hck
        obtain ⟨haS, -⟩ := HOA.out
        have haS' : (a : Int) < (S.size : Int) := by omega
        have ha0 : (0 : Int) ≤ (a : Int) := by omega
        have HB3 := Lib.hid (HB2.out.trans (HB.out.mono HB2.out.size))
        have HN3 := Lib.hid (HN2.out.below HB.out)
        have hqq : ¬ (q : Int) = 0 := by omega
        clear ha hv2 hge
        go_wp2_with fail
        try rw [hk]
        clear hk
        go_loop [11, 12] (fun ev iv => ∃ ii ee : Nat, ev = .int .i64 (ee : Int) ∧ iv = .int .i64 (ii : Int) ∧ ii ≤ S.size ∧ ee ≤ ii ∧ ((ii = a ∧ ee = 0) ∨ (a < ii ∧ 1 ≤ ee ∧ Hid (Scan S ii ee)))) (fun _ iv => S.size - (intOf iv).toNat)
        case atStart => exact ⟨a, 0, rfl, rfl, by omega, Nat.zero_le _, Or.inl ⟨rfl, rfl⟩⟩
        case round =>
          obtain ⟨ii, ee, rfl, rfl, hii, hei, hcase⟩ := hrel
          have hei' : (ee : Int) ≤ 6400 := by omega
          have he0 : (0 : Int) ≤ (ee : Int) := by omega
          by_cases hlt : ii < S.size
          · have hlt' : (ii : Int) < (S.size : Int) := by omega
            have hi0' : (0 : Int) ≤ (ii : Int) := by omega
            have hi1' : (ii : Int) ≤ 6400 := by omega
            obtain ⟨cc, hc⟩ : ∃ cc, S[ii] = cc := ⟨_, rfl⟩
            rcases hcase with ⟨hia, hee⟩ | ⟨hai, he1, HSC⟩
            · have h40 : cc = 40 := by
                obtain ⟨h1, h2⟩ := HOA.out
                rw [← hc, ← h2]
                congr 1
              have HS2 := Lib.hid (show Scan S (ii + 1) 1 by rw [hia]; exact scan_start HPR.out HOA.out)
              have hx4 : ((cc.toNat : Int) == 40) = true := by rw [h40]; rfl
              have hx5 : (cc.toNat == 40) = true := by rw [h40]; rfl
              have HIA := Lib.hid hia
              subst hee
              clear h40 hia
              go_wp2_with fail
              go_round
              case rel => exact ⟨ii + 1, 1, by go_num, by go_num, by omega, by omega, Or.inr ⟨by have := HIA.out; omega, Nat.le_refl _, HS2.out⟩⟩
              case measure => simp [intOf]; omega
            · by_cases h40 : cc = 40
              · have HS2 := Lib.hid (scan_open hlt (by rw [hc]; exact h40) HSC.out)
                have hx4 : ((cc.toNat : Int) == 40) = true := by rw [h40]; rfl
                have hx5 : (cc.toNat == 40) = true := by rw [h40]; rfl
                have hz1 : ((ee : Int) + 1 == 0) = false := beq_eq_false_iff_ne.2 (by omega)
                clear h40
                go_wp2_with fail
                go_round
                case rel => exact ⟨ii + 1, ee + 1, by go_num, by go_num, by omega, by omega, Or.inr ⟨by omega, by omega, HS2.out⟩⟩
                case measure => simp [intOf]; omega
              · by_cases h41 : cc = 41
                · obtain ⟨e', rfl⟩ : ∃ e', ee = e' + 1 := ⟨ee - 1, by omega⟩
                  have HS2 := Lib.hid (scan_close hlt (by rw [hc]; exact h41) HSC.out)
                  have hx4 : ((cc.toNat : Int) == 40) = false := beq_eq_false_iff_ne.2 (fun e => h40 ((byte_is (k := 40) (by decide)).2 e))
                  have hx5 : (cc.toNat == 40) = false := beq_eq_false_iff_ne.2 (fun e => h40 ((byte_is (k := 40) (by decide)).2 (by omega)))
                  have hx6 : ((cc.toNat : Int) == 41) = true := by rw [h41]; rfl
                  have hx7 : (cc.toNat == 41) = true := by rw [h41]; rfl
                  clear h40 h41
                  by_cases h0 : e' = 0
                  · subst h0
                    have hai' : (a : Int) + 1 ≤ (ii : Int) := by omega
                    have his : (ii : Int) + 1 ≤ (S.size : Int) := by omega
                    have hai2 : (a : Int) < (ii : Int) := by omega
                    have hai3 : a + 1 ≤ ii := by omega
                    have hta : ((a : Int) + 1).toNat = a + 1 := by omega
                    have hti : ((ii : Int) + 1).toNat = ii + 1 := by omega
                    have hax : (0 : Int) ≤ (a : Int) + 1 := by omega
                    have hwa : IntKind.i64.wrap ((a : Int) + 1) = (a : Int) + 1 := IntWalk.i64_in _ (by omega)
                    have hwi : IntKind.i64.wrap ((ii : Int) + 1) = (ii : Int) + 1 := IntWalk.i64_in _ (by omega)
                    have sl1 : ∀ W, (Instr.slice 9 (.string S) none (some (.int .i64 (a : Int))) none).run Tryz.prog W = .ok (.string (S.extract 0 a)) W := fun W => by
                      have := run_slice_string_h (P := Tryz.prog) W 9 S Tryz.underlying9 .i64 (a : Int) ha0 (by omega)
                      rw [Int.toNat_natCast] at this
                      exact this
                    have sl2 : ∀ W, (Instr.slice 9 (.string S) (some (.int .i64 ((a : Int) + 1))) (some (.int .i64 (ii : Int))) none).run Tryz.prog W = .ok (.string (S.extract (a + 1) ii)) W := fun W => by
                      have := run_slice_string (P := Tryz.prog) W 9 S .i64 .i64 ((a : Int) + 1) (ii : Int) Tryz.underlying9 hax hai' (by omega)
                      rw [hta, Int.toNat_natCast] at this
                      exact this
                    have sl3 : ∀ W, (Instr.slice 9 (.string S) (some (.int .i64 ((ii : Int) + 1))) none none).run Tryz.prog W = .ok (.string (S.extract (ii + 1) S.size)) W := fun W => by
                      have := run_slice_string_l (P := Tryz.prog) W 9 S Tryz.underlying9 .i64 ((ii : Int) + 1) (by omega) his
                      rw [hti] at this
                      exact this
                    have hne1 : ((ii : Int) == (a : Int)) = false := beq_eq_false_iff_ne.2 (by omega)
                    have hne2 : (ii == a) = false := beq_eq_false_iff_ne.2 (by omega)
                    have hsz9 : (S.extract 0 a ++ S.extract (a + 1) ii ++ S.extract (ii + 1) S.size).size ≤ 19200 := by
                      simp only [ByteArray.size_append, ByteArray.size_extract]
                      omega
                    obtain ⟨⟨l3, p3, c3⟩, hx3⟩ : ∃ x, Parse.parseS false (S.extract 0 a ++ S.extract (a + 1) ii ++ S.extract (ii + 1) S.size).data.toList = x := ⟨_, rfl⟩
                    have HPP := Lib.hid (fun W => Parse.landParse (S.extract 0 a ++ S.extract (a + 1) ii ++ S.extract (ii + 1) S.size) W (by have : maxLen = 9223372036854775807 := rfl; omega))
                    rw [hx3] at HPP
                    have HX3 := Lib.hid (show c3 = 0 → l3 ≠ F ∧ l3.length ≤ 2001 from fun h0 => by
                      subst h0
                      exact ⟨least_count HSL.out HOA.out (by omega) (by omega) hx3, (parse_may hx3).2.2⟩)
                    clear hx3 hsz9
                    by_cases h0 : c3 = 0
                    · have HNE := Lib.hid (HX3.out h0)
                      subst h0
                      go_wp2_with fail
                      go_region_with (go_at_call 7; (with_reducible refine (HPP.out _).mono ?_); rintro e w4 ⟨A3, n3, c3', rfl, hn3, hN3, -, -, hb4⟩)
                      all_goals
                        have hb5 : Below wr.heap.size wr w4 := by first | exact hb4 | exact (Below.refl wr.heap.size wr).drew.trans hb4 | exact (bel_drew1 wr _ wr.heap.size).trans hb4
                        have HB4 := Lib.hid (HB3.out.trans (hb5.mono HB3.out.size))
                        have HN4 := Lib.hid (HN3.out.below hb5)
                        have HNL := Lib.hid (show Nodes Any w4 A3 l3 from hN3)
                        have HL3 := Lib.hid (show l3.length = n3 from hn3)
                        clear hN3 hn3 hb4 hb5
                        go_wp2_with fail
                        have hsn := refSameNodes A3 A1 n3 c3' n1 c1 l3 F w4 HL3.out HL1.out.1 (by have := HNE.out.2; have := HL3.out; omega) HNL.out HN4.out
                        rw [decide_eq_false HNE.out.1] at hsn
                        refine hsn.mono ?_
                        rintro e w5 ⟨rfl, hb5⟩
                        have HB5 := Lib.hid (HB4.out.trans (hb5.mono HB4.out.size))
                        clear hb5 hsn
                        go_wp2_with fail
                        refine (HAW.out _ HB5.out).mono ?_
                        rintro e w6 ⟨rfl, hb6⟩
                        go_wp2_with fail
                        go_ret
                        exact ⟨rfl, HB5.out.trans (hb6.mono HB5.out.size)⟩
                    · have hc0 : ((c3 : Int) != 0) = true := by simp; omega
                      have hc1 : ((c3 : Int) == 0) = false := beq_eq_false_iff_ne.2 (by omega)
                      have hc2 : (c3 == 0) = false := beq_eq_false_iff_ne.2 h0
                      go_wp2_with fail
                      go_region_with (go_at_call 7; (with_reducible refine (HPP.out _).mono ?_); rintro e w4 ⟨A3, n3, c3', rfl, hn3, hN3, -, -, hb4⟩)
                      all_goals
                        have hb5 : Below wr.heap.size wr w4 := by first | exact hb4 | exact (Below.refl wr.heap.size wr).drew.trans hb4 | exact (bel_drew1 wr _ wr.heap.size).trans hb4
                        have HB4 := Lib.hid (HB3.out.trans (hb5.mono HB3.out.size))
                        have HN4 := Lib.hid (HN3.out.below hb5)
                        have HNL := Lib.hid (show Nodes Any w4 A3 l3 from hN3)
                        have HL3 := Lib.hid (show l3.length = n3 from hn3)
                        clear hN3 hn3 hb4 hb5
                        go_wp2_with fail
                        refine (HAW.out _ HB4.out).mono ?_
                        rintro e w6 ⟨rfl, hb6⟩
                        go_wp2_with fail
                        go_ret
                        exact ⟨rfl, HB4.out.trans (hb6.mono HB4.out.size)⟩
                  · have hz1 : ((e' : Int) == 0) = false := beq_eq_false_iff_ne.2 (by omega)
                    have hz2 : (e' == 0) = false := beq_eq_false_iff_ne.2 h0
                    go_wp2_with fail
                    go_round
                    case rel => exact ⟨ii + 1, e', by go_num, by go_num, by omega, by omega, Or.inr ⟨by omega, by omega, HS2.out⟩⟩
                    case measure => simp [intOf]; omega
                · have HS2 := Lib.hid (scan_other hlt (by rw [hc]; exact h40) (by rw [hc]; exact h41) HSC.out)
                  have hx4 : ((cc.toNat : Int) == 40) = false := beq_eq_false_iff_ne.2 (fun e => h40 ((byte_is (k := 40) (by decide)).2 e))
                  have hx5 : (cc.toNat == 40) = false := beq_eq_false_iff_ne.2 (fun e => h40 ((byte_is (k := 40) (by decide)).2 (by omega)))
                  have hx6 : ((cc.toNat : Int) == 41) = false := beq_eq_false_iff_ne.2 (fun e => h41 ((byte_is (k := 41) (by decide)).2 e))
                  have hx7 : (cc.toNat == 41) = false := beq_eq_false_iff_ne.2 (fun e => h41 ((byte_is (k := 41) (by decide)).2 (by omega)))
                  have hz1 : ((ee : Int) == 0) = false := beq_eq_false_iff_ne.2 (by omega)
                  have hz2 : (ee == 0) = false := beq_eq_false_iff_ne.2 (by omega)
                  clear h40 h41
                  go_wp2_with fail
                  go_round
                  case rel => exact ⟨ii + 1, ee, by go_num, by go_num, by omega, by omega, Or.inr ⟨by omega, he1, HS2.out⟩⟩
                  case measure => simp [intOf]; omega
          · exfalso
            rcases hcase with ⟨h1, -⟩ | ⟨-, h1, HSC⟩
            · omega
            · have := scan_end (by omega) HSC.out
              omega
end Go.Proofs.YthcbgneoonekkaaGreatDoor.Show
