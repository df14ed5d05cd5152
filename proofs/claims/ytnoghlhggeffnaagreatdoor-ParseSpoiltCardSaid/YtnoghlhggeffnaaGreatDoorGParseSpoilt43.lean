/-
  The walk of the landed lex's Lex. By an AI agent.
  What the landed Lex leaves. By an AI agent.
  The walks of the landed reader's read, Parse and Regex. By an AI agent.
  The walk of the reference's sign. By an AI agent.
-/
import Derived.Test.YtnoghlhggeffnaaGreatDoorGParseSpoilt42
import Derived.Outline
import Derived.Test.YtnoghlhggeffnaaGreatDoorGParseSpoilt41
import Derived.Test.YtnoghlhggeffnaaGreatDoorGParseSpoilt10
import Derived.Test.YtnoghlhggeffnaaGreatDoorGParseSpoilt3
namespace Go.Proofs.YtnoghlhggeffnaaGreatDoor.Lex
open Go.RowKit

theorem own_below {w w' : World} {base : Nat} {e : TypeId} {size : Nat} {v : Value} {n : Nat} {xs : List Value} (h : w.ownsRow base e size v n xs) (hb : Below w.heap.size w w') : w'.ownsRow base e size v n xs :=
  h.kept (row := none) ⟨hb.os, hb.tape, hb.output, hb.size, fun i hi _ => hb.block i hi⟩ (by cases v.ownBlock <;> simp)

set_option maxHeartbeats 1000000 in
theorem landClone (s : ByteArray) (w : World) (hs : s.size ≤ 2000) :
    Calls Tryz.prog 48 #[.string s] w fun e w' => e = .returned (.string s) ∧ Below w.heap.size w w' := by
  have HC := Lib.hid (fun W => Tryz.stringslite_Clone s W (by omega))
  clear hs
  go_enter Tryz.func48, Tryz.ntmps48
  go_wp2_with (go_at_call 60; refine (HC.out _).mono ?_; rintro e w' ⟨rfl, hb⟩)
  go_ret
  exact ⟨rfl, hb⟩

theorem skip_blanks : ∀ (L : List UInt8) (p : Nat), lexAt p L = lexAt (p + leadS blank L) (L.drop (leadS blank L))
  | [], p => by rfl
  | c :: r, p => by
    rcases hb : blank c
    · rw [lead_no hb, Nat.add_zero, List.drop_zero]
    · rw [lead_yes hb, lexAt_go p (piece_blank r hb)]
      have ih := skip_blanks r (p + 1)
      show (lexAt (p + 1) r).before [] = lexAt (p + (leadS blank r + 1)) (r.drop (leadS blank r))
      rw [before_nil, ih]
      congr 1
      omega
theorem lead_first {p : UInt8 → Bool} : ∀ (L : List UInt8) {c : UInt8} {r : List UInt8}, L.drop (leadS p L) = c :: r → p c = false
  | [], c, r, h => by cases h
  | x :: l, c, r, h => by
    rcases hx : p x
    · rw [lead_no hx, List.drop_zero] at h
      rw [← (List.cons.inj h).1]; exact hx
    · rw [lead_yes hx, List.drop_succ_cons] at h
      exact lead_first l h
theorem lead_drop (L : List UInt8) (p : Nat) {c : UInt8} {r : List UInt8} (h : L.drop (p + leadS blank (L.drop p)) = c :: r) : blank c = false := by
  rw [← List.drop_drop] at h
  exact lead_first _ h
theorem lead_le (L : List UInt8) (p : Nat) (h : p ≤ L.length) : p + leadS blank (L.drop p) ≤ L.length := by
  have : leadS blank (L.drop p) ≤ (L.drop p).length := (List.takeWhile_prefix _).length_le
  rw [List.length_drop] at this
  omega
theorem lead_rel {L : List UInt8} {R : Res} {acc : List Tk} {p : Nat} (h : R = (lexAt p (L.drop p)).before acc) : R = (lexAt (p + leadS blank (L.drop p)) (L.drop (p + leadS blank (L.drop p)))).before acc := by
  rw [h, skip_blanks (L.drop p) p, List.drop_drop]
theorem piece_tok {c : UInt8} {r : List UInt8} {n : Nat} (hb : blank c = false) (h : piece c r = some (n, none)) : False := by
  unfold piece at h
  rw [if_neg (by rw [hb]; decide)] at h
  split at h
  · split at h <;> cases h
  · split at h
    · split at h <;> cases h
    · split at h
      · cases h
      · split at h <;> cases h

/-- wpList_append_tok behind one block more: where the new token's block lies is said by a number. -/
theorem wpList_append_tok2 {P : Program} {w : World} {ops : Array Oper} {rest : List Oper} {o : Oper} {a : Act} {Q : Exit → Act → World → Prop} (hgd : o.guard = none) (s x : Operand) (t : TypeId)
    (ho : o.op = .call { callee := .builtin .append, args := #[s, x], argTypes := #[t, t] }) (base : Nat) (e : TypeId) (i : TypeInfo) (z : Value) (nb : Nat)
    (ht : P.underlying t = some (.slice e)) (hi : P.info? e = some i) (hz : i.zero = some z) (hsize : i.size = 4) (hby : i.bytes = nb) (hzs : z.cells.size = 4)
    (v : Value) (l : List Tk) (hs : a.eval s = v) (o1 : Obj) (hown : w.ownsRow base e 4 v l.length (rowTk l))
    (tk : Tk) (T : TypeId) (cs : Array Value) (hcs : cs = (cellsTk tk).toArray) (hx : a.eval x = .slice (some ⟨w.heap.size + 1, 0, none⟩) 1 1)
    (hl : l.length ≤ 2000) (hb : nb ≤ 1000) (hbase : base ≤ w.heap.size)
    (h : ∀ v' w', w'.ownsRow base e 4 v' (l ++ [tk]).length (rowTk (l ++ [tk])) → ((w.alloc o1).alloc (.cells cs T)).grownBy w' v.ownBlock → wpList P ops Q rest (a.put o.dst v') w') : wpList P ops Q (o :: rest) a ((w.alloc o1).alloc (.cells cs T)) :=
  wpList_append_tok hgd s x t ho base e i z nb ht hi hz hsize hby hzs v l hs (hown.alloc _) tk T cs hcs (by rw [hx]; simp) hl hb (by simp; omega) h

theorem le_alloc {a : Nat} {w : World} {o : Obj} (h : a ≤ w.heap.size) : a ≤ (w.alloc o).heap.size := by simp; omega

set_option maxHeartbeats 8000000 in
set_option maxRecDepth 100000 in
theorem landLex (s : ByteArray) (w : World) (hs : s.size ≤ maxLen) :
    Calls Tryz.prog 39 #[.string s] w (LexPost w s.data.toList) := by
  obtain ⟨i0, hi, hz0, hz1, hz2⟩ := info_parts infoTok
  have hlen : s.data.toList.length = s.size := Array.length_toList
  by_cases hbig : 2000 < s.size
  · have hbig' : (2000 : Int) < (s.size : Int) := by omega
    have HP := Lib.hid (post_many (w := w) (L := s.data.toList) (by omega))
    clear hlen hbig
    go_enter Tryz.func39, Tryz.ntmps39
    go_wp2
    go_ret3
    exact HP.out
  · have HL := Lib.hid (show ¬ 2000 < s.data.toList.length by omega)
    have hbig' : (s.size : Int) ≤ 2000 := by omega
    have HZ := Lib.hid (show s.size ≤ 2000 by omega)
    have HSM := Lib.hid hs
    have HLEN := Lib.hid hlen
    obtain ⟨R, hR⟩ : ∃ R, lexAt 0 s.data.toList = R := ⟨_, rfl⟩
    have HR0 := Lib.hid hR
    have HCL := Lib.hid (fun W => landClone s W HZ.out)
    have hsk := fun W => landSkip s 0 W (Nat.zero_le _) hs
    have hR1 : R = (lexAt (0 + leadS blank (s.data.toList.drop 0)) (s.data.toList.drop (0 + leadS blank (s.data.toList.drop 0)))).before [] := lead_rel (by rw [before_nil, List.drop_zero, hR])
    have hb1 : ∀ c r, s.data.toList.drop (0 + leadS blank (s.data.toList.drop 0)) = c :: r → blank c = false := fun c r h => lead_drop _ 0 h
    have hl1 := lead_le s.data.toList 0 (Nat.zero_le _)
    obtain ⟨q, hq⟩ : ∃ q, 0 + leadS blank (s.data.toList.drop 0) = q := ⟨_, rfl⟩
    rw [hq] at hR1 hb1 hsk hl1
    rw [hlen] at hl1
    have HR := Lib.hid hR1
    have HB1 := Lib.hid hb1
    have HSK := Lib.hid hsk
    clear hlen hbig hs hR hsk hq hR1 hb1
    go_enter Tryz.func39, Tryz.ntmps39
    go_wp2_with (first
      | (go_at_call 48; refine (HCL.out _).mono ?_; rintro e w1 ⟨rfl, hB0⟩)
      | (go_at_call 49; refine (HSK.out _).mono ?_; rintro e w' ⟨rfl, rfl⟩))
    go_loopw [6, 7] (fun v i wr => ∃ (p : Nat) (acc : List Tk), p ≤ s.size ∧ acc.length ≤ p ∧ i = .int .i64 p ∧ wr.ownsRow w.heap.size 74 4 v acc.length (rowTk acc) ∧ Below w.heap.size w wr ∧ Hid (R = (lexAt p (s.data.toList.drop p)).before acc) ∧ Hid (∀ c r, s.data.toList.drop p = c :: r → blank c = false)) (fun _ i _ => s.size - (intOf i).toNat)
    case atStart => exact ⟨q, [], hl1, Nat.zero_le _, rfl, World.ownsRow_made w1 #[] 0 hB0.size (by decide) rfl, hB0.alloc hB0.size _, HR, HB1⟩
    case round =>
      obtain ⟨p, acc, hp, hacc, rfl, hown, hB, HN, HBL⟩ := hrel
      have HO := Lib.hid hown
      have HB := Lib.hid hB
      clear hown hB
      by_cases hlt : p < s.size
      · have hlt' : (p : Int) < (s.size : Int) := by omega
        have hp' : (p : Int) ≤ (s.size : Int) := by omega
        have hd := drop_get s p hlt
        obtain ⟨c, hc⟩ : ∃ c, s[p] = c := ⟨_, rfl⟩
        rw [hc] at hd
        obtain ⟨r, hr⟩ : ∃ r, s.data.toList.drop (p + 1) = r := ⟨_, rfl⟩
        rw [hr] at hd
        have hbl := HBL.out c r hd
        obtain ⟨Y, hY⟩ : ∃ Y, s.extract p s.size = Y := ⟨_, rfl⟩
        have hYd : Y.data.toList = c :: r := by
          rw [← hY, extract_bytes s p (s.size - p) s.size (by omega), ← hd]
          show (s.data.toList.drop p).take (s.size - p) = _
          exact List.take_of_length_le (by rw [List.length_drop, Array.length_toList]; exact Nat.le_refl _)
        have hYs : Y.size ≤ maxLen := by
          have e : Y.size = Y.data.toList.length := Array.length_toList.symm
          rw [e, hYd, ← hd, List.length_drop, Array.length_toList]
          have := HSM.out
          have : s.data.size = s.size := rfl
          omega
        have hF := fun W => landFirst Y c r W hYs hYd hbl
        have hcr : (c :: r).length = s.size - p := by rw [← hd, List.length_drop, HLEN.out]
        rcases hpc : piece c r with _ | ⟨n, t⟩
        · have HN2 := Lib.hid (lex_stop hd HN.out hpc)
          rw [hpc] at hF
          have HF := Lib.hid (fun W => first_laid (hF W))
          clear hF hpc hd hr hc hYd hYs hbl HN HBL hcr
          go_wp2_with (go_at_call 50; refine (HF.out _).mono ?_; rintro e w2 ⟨rfl, hb2⟩)
          go_ret3
          exact post_bad HL.out (HR0.out.trans HN2.out) ((HB.out.trans (hb2.mono HB.out.size)).alloc (Nat.le_trans HB.out.size hb2.size) _)
        · rcases t with _ | ⟨k, tx, v⟩
          · exact (piece_tok hbl hpc).elim
          · rw [hpc] at hF
            have HF := Lib.hid (fun W => first_laid (hF W))
            obtain ⟨hn1, hn2⟩ := piece_pos hpc
            have hn3 : p + n ≤ s.size := by simp only [List.length_cons] at hcr; omega
            have hN2 : R = (lexAt (p + n) (s.data.toList.drop (p + n))).before (acc ++ [⟨k, tx, v, p⟩]) := lex_step hd HN.out hpc
            have hN3 := lead_rel hN2
            have hb3 : ∀ c r, s.data.toList.drop ((p + n) + leadS blank (s.data.toList.drop (p + n))) = c :: r → blank c = false := fun c r h => lead_drop _ (p + n) h
            have hl3 := lead_le s.data.toList (p + n) (by rw [HLEN.out]; exact hn3)
            have hsk := fun W => landSkip s (p + n) W hn3 HSM.out
            obtain ⟨q2, hq2⟩ : ∃ q2, (p + n) + leadS blank (s.data.toList.drop (p + n)) = q2 := ⟨_, rfl⟩
            have hpq : p + n ≤ q2 := by omega
            rw [hq2] at hN3 hb3 hsk hl3
            rw [HLEN.out] at hl3
            have HN3 := Lib.hid hN3
            have HB3 := Lib.hid hb3
            obtain ⟨m, hm⟩ : ∃ m, p + n = m := ⟨_, rfl⟩
            rw [hm] at hsk hpq
            have HSK3 := Lib.hid hsk
            have HACC := Lib.hid (show acc.length ≤ 2000 by have := HZ.out; omega)
            have HAQ := Lib.hid (show (acc ++ [(⟨k, tx, v, p⟩ : Tk)]).length ≤ q2 by rw [List.length_append, List.length_singleton]; omega)
            have hn0 : ((n : Int) == 0) = false := by simp only [beq_eq_false_iff_ne]; omega
            have HPQ := Lib.hid (show p < q2 by omega)
            have HLQ := Lib.hid hl3
            have hsum : (p : Int) + (n : Int) ≤ 9223372036854775807 := by have := HZ.out; omega
            have hm64 : m ≤ 9223372036854775807 := by have := HZ.out; omega
            have e3 := add64 hm hm64
            clear hF hpc hd hr hc hYd hYs hbl HN HBL hcr hN2 hN3 hb3 hsk hq2 hm hn1 hn2 hn3 hm64 hpq hl3
            go_wp2_with (first
              | (go_at_call 50; refine (HF.out _).mono ?_; rintro e w2 ⟨rfl, hb2⟩)
              | (go_at_call 49; refine (HSK3.out _).mono ?_; rintro e w' ⟨rfl, rfl⟩)
              | (at_builtin; refine wpList_append_tok2 rfl _ _ 63 rfl w.heap.size 74 i0 _ 40 Tryz.underlying63 hi hz0 hz1 hz2 rfl _ acc rfl _ (own_below HO.out hb2) ⟨k, tx, v, p⟩ _ _ rfl rfl HACC.out (by decide) (Nat.le_trans HB.out.size hb2.size) ?_; intro v3 w3 hown3 hgr3))
            go_roundw
            case rel => exact ⟨q2, acc ++ [⟨k, tx, v, p⟩], HLQ.out, HAQ.out, rfl, hown3, (((HB.out.trans (hb2.mono HB.out.size)).alloc (Nat.le_trans HB.out.size hb2.size) _).alloc (le_alloc (Nat.le_trans HB.out.size hb2.size)) _).grown hgr3 (le_alloc (le_alloc (Nat.le_trans HB.out.size hb2.size))) (fun k hk => (HO.out.lt k hk).1), HN3, HB3⟩
            case measure => have := HPQ.out; have := HLQ.out; clear e3; simp [intOf]; omega
      · have hge : decide ((p : Int) < (s.size : Int)) = false := by simp; omega
        have e : p = s.size := by omega
        have HN2 := Lib.hid (lex_end (drop_end s p (by omega)) HN.out)
        have HACC := Lib.hid (show acc.length ≤ 2000 by have := HZ.out; omega)
        clear HN HBL
        subst e
        go_wp2_with (at_builtin; refine wpList_append_tok rfl _ _ 63 rfl w.heap.size 74 i0 _ 40 Tryz.underlying63 hi hz0 hz1 hz2 rfl _ acc rfl HO.out ⟨0, [], 0, s.size⟩ _ _ rfl rfl HACC.out (by decide) HB.out.size ?_; intro v3 w3 hown3 hgr3)
        go_ret3
        exact post_ok HL.out (HR0.out.trans HN2.out) hown3 ((HB.out.alloc HB.out.size _).grown hgr3 (by have := HB.out.size; simp; omega) (fun k hk => (HO.out.lt k hk).1))
end Go.Proofs.YtnoghlhggeffnaaGreatDoor.Lex

namespace Go.Proofs.YtnoghlhggeffnaaGreatDoor.Lex
open Go.RowKit

theorem progLex (s : ByteArray) (w : World) (hs : s.size ≤ maxLen) : Calls Tryz.prog 39 #[.string s] w (LexGot w (lexS s.data.toList)) :=
  (landLex s w hs).mono fun _ _ h => h.got

end Go.Proofs.YtnoghlhggeffnaaGreatDoor.Lex

namespace Go.Proofs.YtnoghlhggeffnaaGreatDoor.Parse
open Go.RowKit Go.Proofs.YtnoghlhggeffnaaGreatDoor.Ints Go.Proofs.YtnoghlhggeffnaaGreatDoor.Lex Go.Proofs.YtnoghlhggeffnaaGreatDoor.Tree

/-- What Parse and Regex leave: the nodes, the place, the error. -/
def ParseGot (w : World) (x : List Nd × Nat × Nat) (e : Ending) (w' : World) : Prop :=
  ∃ A n c, e = .returned (.tuple #[.slice A n c, .int .i64 (x.2.1 : Int), .int .i64 (x.2.2 : Int)]) ∧ x.1.length = n ∧ Nodes Any w' A x.1 ∧ n ≤ c ∧ c ≤ maxLen ∧ Below w.heap.size w w'
theorem ParseGot.none {w w' : World} {x : List Nd × Nat × Nat} {p c : Nat} (hx : x = ([], p, c)) (hb : Below w.heap.size w w') : ParseGot w x (.returned (.tuple #[.slice none 0 0, .int .i64 (p : Int), .int .i64 (c : Int)])) w' := by
  subst hx
  exact ⟨_, _, _, rfl, rfl, Nodes.nil _ _ _, Nat.le_refl _, by decide, hb⟩
theorem start_mem {w : World} {tv : Value} {ts : List Tk} (g : Bool) (h : Toks w tv ts) :
    PMemE (Aw none) ((w.alloc (.cells #[.int .i64 0, .int .i64 0, .int .i64 0, .int .i64 0, .int .i64 0, .string { data := #[] }, .bool g, .int .i64 0] 68)).alloc (.cells #[tv, .int .i64 0, .bool false, .int .i64 0, .slice (some ⟨w.heap.size, 0, none⟩) 1 1, .slice none 0 0, .slice none 0 0] 71)) w.heap.size (w.heap.size + 1) ts (start g ts) := by
  have hb : Below w.heap.size w ((w.alloc (.cells #[.int .i64 0, .int .i64 0, .int .i64 0, .int .i64 0, .int .i64 0, .string { data := #[] }, .bool g, .int .i64 0] 68)).alloc (.cells #[tv, .int .i64 0, .bool false, .int .i64 0, .slice (some ⟨w.heap.size, 0, none⟩) 1 1, .slice none 0 0, .slice none 0 0] 71)) := ((Below.refl _ _).alloc (Nat.le_refl _) _).alloc (by simp) _
  have hblk := Blk.new (w.alloc (.cells #[.int .i64 0, .int .i64 0, .int .i64 0, .int .i64 0, .int .i64 0, .string { data := #[] }, .bool g, .int .i64 0] 68)) #[tv, .int .i64 0, .bool false, .int .i64 0, .slice (some ⟨w.heap.size, 0, none⟩) 1 1, .slice none 0 0, .slice none 0 0] 71 _ rfl
  have hsz : (w.alloc (.cells #[.int .i64 0, .int .i64 0, .int .i64 0, .int .i64 0, .int .i64 0, .string { data := #[] }, .bool g, .int .i64 0] 68)).heap.size = w.heap.size + 1 := by simp
  rw [hsz] at hblk
  refine ⟨tv, .slice (some ⟨w.heap.size, 0, none⟩) 1 1, .slice none 0 0, .slice none 0 0, [], ?_⟩
  refine ⟨?_, Nat.le_succ _, hb.size, h.keep hb, ?_, List.suffix_refl _, ?_, OwnNodes.nil _ _ _, rfl, World.ownsRow_nil _ _ _ _, (fun e => by have e : some w.heap.size = some (w.heap.size + 1) := e; injection e with e; omega), (fun e => by cases e), (fun e => by cases e), Or.inr (fun e => by cases e), Or.inr (fun e => by cases e), Or.inl rfl, (fun e => by cases e), (fun _ _ e => by cases e), (fun _ _ e => by cases e), (fun _ _ e => by cases e)⟩
  · have e : cellsP ts tv (.slice (some ⟨w.heap.size, 0, none⟩) 1 1) (.slice none 0 0) (.slice none 0 0) (start g ts) = [tv, .int .i64 0, .bool false, .int .i64 0, .slice (some ⟨w.heap.size, 0, none⟩) 1 1, .slice none 0 0, .slice none 0 0] := by
      unfold cellsP start
      simp only
      rw [Nat.sub_self]
      rfl
    rw [e]
    exact hblk
  · intro b hb'
    obtain ⟨A, c, h1, h2, -⟩ := h
    rw [h1] at hb'
    cases A with
    | none => cases hb'
    | some a =>
      have hb' : some a.block = some b := hb'
      injection hb' with hb'
      rw [← hb']
      exact h2 a rfl
  · refine ⟨rfl, Or.inr ⟨w.heap.size, 1, #[.int .i64 0, .int .i64 0, .int .i64 0, .int .i64 0, .int .i64 0, .string { data := #[] }, .bool g, .int .i64 0], rfl, Nat.le_refl _, ?_, Nat.le_refl _, by decide, rfl, rfl⟩⟩
    rw [Below.heap_alloc _ _ _ (by simp)]
    exact heap_alloc_new w _
theorem ent0_ok (g : Bool) : EntOk (ent0 g) := ⟨Or.inl ⟨rfl, rfl⟩, zero_small, zero_small, Nat.zero_le _, Nat.zero_le _⟩
theorem start_fit {g : Bool} {ts : List Tk} (h : GoodT ts) : Fit (ts.length + 1) (eOf (start g ts)) (start g ts) := by
  refine ⟨⟨fun x hx => ?_, ⟨[], g, rfl⟩, (fun z hz => by cases hz), rfl, ?_⟩, h, Nat.zero_le _⟩
  · rw [List.mem_singleton.1 hx]; exact ent0_ok g
  · show 1 + 0 + ts.length ≤ ts.length + 1
    omega
theorem parse_run {g : Bool} {bs : List UInt8} (h : (lexS bs).2.2 = 0) : parseS g bs = outM (runW (start g (lexS bs).1)) := by
  unfold parseS
  rw [if_neg (fun h' => h' h)]
  rfl

set_option maxHeartbeats 16000000 in
set_option maxRecDepth 100000 in
theorem landRead (s : ByteArray) (g : Bool) (w : World) (hs : s.size ≤ maxLen) :
    Calls Tryz.prog 27 #[.string s, .bool g] w (ParseGot w (parseS g s.data.toList)) := by
  have HX := Lib.hid (progLex s w hs)
  obtain ⟨L, hL⟩ : ∃ L, s.data.toList = L := ⟨_, rfl⟩
  rw [hL] at HX ⊢
  obtain ⟨ts, hts⟩ : ∃ ts, (lexS L).1 = ts := ⟨_, rfl⟩
  obtain ⟨p, hp⟩ : ∃ p, (lexS L).2.1 = p := ⟨_, rfl⟩
  obtain ⟨c, hc⟩ : ∃ c, (lexS L).2.2 = c := ⟨_, rfl⟩
  unfold LexGot at HX
  rw [hts, hp, hc] at HX
  by_cases hc0 : c = 0
  · subst hc0
    obtain ⟨hG, hlen⟩ := lexS_good hc
    rw [hts] at hG hlen
    have HG := Lib.hid hG
    have HLN := Lib.hid hlen
    have HP := Lib.hid (show parseS g L = outM (runW (start g ts)) by rw [parse_run hc, hts])
    clear hs hL hts hp hc hG hlen
    go_enter Tryz.func27, Tryz.ntmps27
    go_wp2_with fail
    refine HX.out.mono ?_
    rintro e w1 ⟨v, rfl, ht, hb⟩
    obtain ⟨VA, vc, hv, -, -⟩ := id ht
    subst hv
    have HT := Lib.hid ht
    have HB := Lib.hid hb
    clear ht hb
    go_wp2_with fail
    have hmem := start_mem g HT.out
    have hb2 := (HB.out.alloc HB.out.size (.cells #[.int .i64 0, .int .i64 0, .int .i64 0, .int .i64 0, .int .i64 0, .string { data := #[] }, .bool g, .int .i64 0] 68)).alloc (Lex.le_alloc HB.out.size) (.cells #[.slice VA ts.length vc, .int .i64 0, .bool false, .int .i64 0, .slice (some ⟨w1.heap.size, 0, none⟩) 1 1, .slice none 0 0, .slice none 0 0] 71)
    have HB2 := Lib.hid hb2
    have HBS := Lib.hid HB.out.size
    have HALL := Lib.hid (landAll w1.heap.size (w1.heap.size + 1) (ts.length + 1) ts (start g ts) _ hmem (start_fit HG.out) (by have := HLN.out; omega) (by have := HLN.out; omega))
    clear hmem hb2
    refine HALL.out.mono ?_
    intro e w2 h2
    rcases hr : runW (start g ts) with ⟨c, p⟩ | τ
    · rw [hr] at h2
      obtain ⟨hc0, rfl, ⟨τ, hg, hpos, hm⟩, hf⟩ := h2
      have hcn : ((c : Int) != 0) = true := by simp; omega
      obtain ⟨t, r, hrest, -, -, -, -⟩ := hg.split
      have HPO := Lib.hid (show parseS g L = ([], t.pos, c) by rw [HP.out, hr]; show ([], p, c) = _; rw [← hpos, hrest]; rfl)
      have HM2 := Lib.hid hm
      have HR := Lib.hid hrest
      have HF2 := Lib.hid (HB2.out.trans (hf.below.mono HBS.out))
      have q3 := fieldT3 t.kind (Lex.bytes t.text) t.num t.pos
      clear hg hpos hm hf hr hc0 hrest
      go_wp2_with fail
      refine (landTok w1.heap.size (w1.heap.size + 1) ts τ t r _ HM2.out HR.out (by have := HLN.out; omega)).mono ?_
      rintro e w3 ⟨rfl, hb3⟩
      have HB3 := Lib.hid (HF2.out.trans (hb3.mono HF2.out.size))
      clear hb3
      go_wp2_with fail
      go_ret3
      exact ParseGot.none HPO.out HB3.out
    · rw [hr] at h2
      obtain ⟨rfl, hm, hf⟩ := h2
      obtain ⟨tv, ov, nv, rv, SN, hm⟩ := hm
      obtain ⟨A, cc, hnv, hnodes, hle, hmx⟩ := (hm.nds.mono (S' := Any) fun _ _ _ => trivial).reads (fun _ _ _ => trivial)
      subst hnv
      rw [hm.ndl] at hnodes
      have hSN : SN.length = τ.nodes.length := by rw [← hm.ndl, List.length_map]
      rw [hSN] at hm hle
      have k5 := hm.blk.cell 5 rfl
      have HPO := Lib.hid (show parseS g L = (τ.nodes, 0, 0) by rw [HP.out, hr]; rfl)
      have HF2 := Lib.hid (HB2.out.trans (hf.below.mono HBS.out))
      have HN := Lib.hid (And.intro hnodes (And.intro hle hmx))
      clear hm hnodes hle hmx hSN hf hr
      go_wp2_with fail
      go_ret3
      rw [HPO.out]
      exact ⟨_, _, _, rfl, rfl, HN.out.1, HN.out.2.1, HN.out.2.2, HF2.out⟩
  · have hcn : ((c : Int) != 0) = true := by simp; omega
    have HPO := Lib.hid (show parseS g L = ([], p, c) by unfold parseS; rw [if_pos (by rw [hc]; exact hc0), hp, hc])
    clear hs hL hts hp hc hc0
    go_enter Tryz.func27, Tryz.ntmps27
    go_wp2_with fail
    refine HX.out.mono ?_
    rintro e w1 ⟨v, rfl, ht, hb⟩
    have HB := Lib.hid hb
    clear ht hb
    go_wp2_with fail
    go_ret3
    exact ParseGot.none HPO.out HB.out

theorem landParse (s : ByteArray) (w : World) (hs : s.size ≤ maxLen) : Calls Tryz.prog 13 #[.string s] w (ParseGot w (parseS false s.data.toList)) := by
  have HR := Lib.hid (landRead s false w hs)
  clear hs
  go_enter Tryz.func13, Tryz.ntmps13
  go_wp2_with fail
  refine HR.out.mono ?_
  rintro e w1 ⟨A, n, c, rfl, h2⟩
  have H2 := Lib.hid h2
  clear h2
  go_wp2_with fail
  go_ret3
  exact ⟨_, _, _, rfl, H2.out⟩
theorem landRegex (s : ByteArray) (w : World) (hs : s.size ≤ maxLen) : Calls Tryz.prog 16 #[.string s] w (ParseGot w (parseS true s.data.toList)) := by
  have HR := Lib.hid (landRead s true w hs)
  clear hs
  go_enter Tryz.func16, Tryz.ntmps16
  go_wp2_with fail
  refine HR.out.mono ?_
  rintro e w1 ⟨A, n, c, rfl, h2⟩
  have H2 := Lib.hid h2
  clear h2
  go_wp2_with fail
  go_ret3
  exact ⟨_, _, _, rfl, H2.out⟩
end Go.Proofs.YtnoghlhggeffnaaGreatDoor.Parse

namespace Go.Proofs.YtnoghlhggeffnaaGreatDoor.Lex
open Go.RowKit

set_option maxHeartbeats 1000000 in
theorem refSign (c : UInt8) (w : World) :
    Calls Tryz.prog 53 #[.int .u8 (c.toNat : Int)] w fun e w' => e = .returned (.bool (isSign c)) ∧ w' = w := by
  go_enter Tryz.func53, Tryz.ntmps53
  go_wp2
  go_loop [4] (fun i => ∃ k : Nat, k ≤ 15 ∧ i = .int .i64 k ∧ Hid (∀ j, j < k → signs.getD j 0 ≠ c.toNat)) (fun i => 15 - (intOf i).toNat)
  case atStart => exact ⟨0, by omega, rfl, fun j hj => by omega⟩
  case round =>
    obtain ⟨k, hk, rfl, HN⟩ := hrel
    by_cases hlt : k < 15
    · have hlt' : (k : Int) < 15 := by omega
      have hc := sign_at k hlt
      have HS := Lib.hid (sign_step c k hlt)
      obtain ⟨x, hx⟩ : ∃ x, signs.getD k 0 = x := ⟨_, rfl⟩
      have HX := Lib.hid hx
      rw [hx] at hc
      clear hx
      by_cases he : x = c.toNat
      · subst he
        have HE := Lib.hid (HS.out HX.out)
        clear HS HX
        go_wp2
        go_ret
        exact ⟨by rw [HE.out]; rfl, rfl⟩
      · have he' : ((x : Int) == (c.toNat : Int)) = false := by simp only [beq_eq_false_iff_ne]; omega
        have HE := Lib.hid (show ∀ j, j < k + 1 → signs.getD j 0 ≠ c.toNat from fun j hj => by
          by_cases hjk : j = k
          · rw [hjk, HX.out]; exact he
          · exact HN.out j (by omega))
        clear HS HX he
        go_wp2
        go_round
        case rel => exact ⟨k + 1, by omega, by go_num, HE⟩
        case measure => simp [intOf]; omega
    · have HE := Lib.hid (sign_none c (fun j hj => HN.out j (by omega)))
      have hge : decide ((k : Int) < 15) = false := by simp; omega
      go_wp2
      go_ret
      exact ⟨by rw [HE.out]; rfl, rfl⟩
end Go.Proofs.YtnoghlhggeffnaaGreatDoor.Lex
