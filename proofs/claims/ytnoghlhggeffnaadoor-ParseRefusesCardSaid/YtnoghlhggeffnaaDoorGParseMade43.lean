/-
  The walks of the landed reader's read, Parse and Regex. By an AI agent.
  The walk of the laws' awake. By an AI agent.
-/
import Derived.Test.YtnoghlhggeffnaaDoorGParseMade41
import Derived.Test.YtnoghlhggeffnaaDoorGParseMade42
namespace Go.Proofs.YtnoghlhggeffnaaDoor.Parse
open Go.RowKit Go.Proofs.YtnoghlhggeffnaaDoor.Ints Go.Proofs.YtnoghlhggeffnaaDoor.Lex Go.Proofs.YtnoghlhggeffnaaDoor.Tree

/-- What Parse and Regex leave: the nodes, the place, the error. -/
def ParseGot (w : World) (x : List Nd × Nat × Nat) (e : Ending) (w' : World) : Prop :=
  ∃ A n c, e = .returned (.tuple #[.slice A n c, .int .i64 (x.2.1 : Int), .int .i64 (x.2.2 : Int)]) ∧ x.1.length = n ∧ Nodes Any w' A x.1 ∧ n ≤ c ∧ c ≤ maxLen ∧ Below w.heap.size w w'
theorem ParseGot.none {w w' : World} {x : List Nd × Nat × Nat} {p c : Nat} (hx : x = ([], p, c)) (hb : Below w.heap.size w w') : ParseGot w x (.returned (.tuple #[.slice none 0 0, .int .i64 (p : Int), .int .i64 (c : Int)])) w' := by
  subst hx
  exact ⟨_, _, _, rfl, rfl, Nodes.nil _ _ _, Nat.le_refl _, by decide, hb⟩
theorem start_mem {w : World} {tv : Value} {ts : List Tk} (g : Bool) (h : Toks w tv ts) :
    PMemE (Aw none) ((w.alloc (.cells #[.int .i64 0, .int .i64 0, .int .i64 0, .int .i64 0, .int .i64 0, .string { data := #[] }, .bool g, .int .i64 0] 62)).alloc (.cells #[tv, .int .i64 0, .bool false, .int .i64 0, .slice (some ⟨w.heap.size, 0, none⟩) 1 1, .slice none 0 0, .slice none 0 0] 65)) w.heap.size (w.heap.size + 1) ts (start g ts) := by
  have hb : Below w.heap.size w ((w.alloc (.cells #[.int .i64 0, .int .i64 0, .int .i64 0, .int .i64 0, .int .i64 0, .string { data := #[] }, .bool g, .int .i64 0] 62)).alloc (.cells #[tv, .int .i64 0, .bool false, .int .i64 0, .slice (some ⟨w.heap.size, 0, none⟩) 1 1, .slice none 0 0, .slice none 0 0] 65)) := ((Below.refl _ _).alloc (Nat.le_refl _) _).alloc (by simp) _
  have hblk := Blk.new (w.alloc (.cells #[.int .i64 0, .int .i64 0, .int .i64 0, .int .i64 0, .int .i64 0, .string { data := #[] }, .bool g, .int .i64 0] 62)) #[tv, .int .i64 0, .bool false, .int .i64 0, .slice (some ⟨w.heap.size, 0, none⟩) 1 1, .slice none 0 0, .slice none 0 0] 65 _ rfl
  have hsz : (w.alloc (.cells #[.int .i64 0, .int .i64 0, .int .i64 0, .int .i64 0, .int .i64 0, .string { data := #[] }, .bool g, .int .i64 0] 62)).heap.size = w.heap.size + 1 := by simp
  rw [hsz] at hblk
  refine ⟨tv, .slice (some ⟨w.heap.size, 0, none⟩) 1 1, .slice none 0 0, .slice none 0 0, [], ?_⟩
  refine ⟨?_, Nat.le_succ _, hb.size, h.keep hb, ?_, List.suffix_refl _, ?_, OwnNodes.nil _ _ _, rfl, World.ownsRow_nil _ _ _ _, (fun e => by have e : some w.heap.size = some (w.heap.size + 1) := e; injection e with e; omega), (fun e => by cases e), (fun e => by cases e), Or.inr (fun e => by cases e), Or.inr (fun e => by cases e), Or.inl rfl, (fun e => by cases e), (fun _ _ e => by cases e), (fun _ _ e => by cases e), (fun _ _ e => by cases e)⟩
  · have e : cellsP ts tv (.slice (some ⟨w.heap.size, 0, none⟩) 1 1) (.slice none 0 0) (.slice none 0 0) (start g ts) = [tv, .int .i64 0, .bool false, .int .i64 0, .slice (some ⟨w.heap.size, 0, none⟩) 1 1, .slice none 0 0, .slice none 0 0] := by
      unfold cellsP start
      simp only
      rw [Nat.sub_self]
      rfl
    rw [e]
    exact hblk
  · intro b hb'
    obtain ⟨A, c, h1, h2, -⟩ := h
    rw [h1] at hb'
    cases A with
    | none => cases hb'
    | some a =>
      have hb' : some a.block = some b := hb'
      injection hb' with hb'
      rw [← hb']
      exact h2 a rfl
  · refine ⟨rfl, Or.inr ⟨w.heap.size, 1, #[.int .i64 0, .int .i64 0, .int .i64 0, .int .i64 0, .int .i64 0, .string { data := #[] }, .bool g, .int .i64 0], rfl, Nat.le_refl _, ?_, Nat.le_refl _, by decide, rfl, rfl⟩⟩
    rw [Below.heap_alloc _ _ _ (by simp)]
    exact heap_alloc_new w _
theorem ent0_ok (g : Bool) : EntOk (ent0 g) := ⟨Or.inl ⟨rfl, rfl⟩, zero_small, zero_small, Nat.zero_le _, Nat.zero_le _⟩
theorem start_fit {g : Bool} {ts : List Tk} (h : GoodT ts) : Fit (ts.length + 1) (eOf (start g ts)) (start g ts) := by
  refine ⟨⟨fun x hx => ?_, ⟨[], g, rfl⟩, (fun z hz => by cases hz), rfl, ?_⟩, h, Nat.zero_le _⟩
  · rw [List.mem_singleton.1 hx]; exact ent0_ok g
  · show 1 + 0 + ts.length ≤ ts.length + 1
    omega
theorem parse_run {g : Bool} {bs : List UInt8} (h : (lexS bs).2.2 = 0) : parseS g bs = outM (runW (start g (lexS bs).1)) := by
  unfold parseS
  rw [if_neg (fun h' => h' h)]
  rfl

set_option maxHeartbeats 16000000 in
set_option maxRecDepth 100000 in
theorem landRead (s : ByteArray) (g : Bool) (w : World) (hs : s.size ≤ maxLen) :
    Calls Tryd.prog 19 #[.string s, .bool g] w (ParseGot w (parseS g s.data.toList)) := by
  have HX := Lib.hid (progLex s w hs)
  obtain ⟨L, hL⟩ : ∃ L, s.data.toList = L := ⟨_, rfl⟩
  rw [hL] at HX ⊢
  obtain ⟨ts, hts⟩ : ∃ ts, (lexS L).1 = ts := ⟨_, rfl⟩
  obtain ⟨p, hp⟩ : ∃ p, (lexS L).2.1 = p := ⟨_, rfl⟩
  obtain ⟨c, hc⟩ : ∃ c, (lexS L).2.2 = c := ⟨_, rfl⟩
  unfold LexGot at HX
  rw [hts, hp, hc] at HX
  by_cases hc0 : c = 0
  · subst hc0
    obtain ⟨hG, hlen⟩ := lexS_good hc
    rw [hts] at hG hlen
    have HG := Lib.hid hG
    have HLN := Lib.hid hlen
    have HP := Lib.hid (show parseS g L = outM (runW (start g ts)) by rw [parse_run hc, hts])
    clear hs hL hts hp hc hG hlen
    go_enter Tryd.func19, Tryd.ntmps19
    go_wp2_with fail
    refine HX.out.mono ?_
    rintro e w1 ⟨v, rfl, ht, hb⟩
    obtain ⟨VA, vc, hv, -, -⟩ := id ht
    subst hv
    have HT := Lib.hid ht
    have HB := Lib.hid hb
    clear ht hb
    go_wp2_with fail
    have hmem := start_mem g HT.out
    have hb2 := (HB.out.alloc HB.out.size (.cells #[.int .i64 0, .int .i64 0, .int .i64 0, .int .i64 0, .int .i64 0, .string { data := #[] }, .bool g, .int .i64 0] 62)).alloc (Lex.le_alloc HB.out.size) (.cells #[.slice VA ts.length vc, .int .i64 0, .bool false, .int .i64 0, .slice (some ⟨w1.heap.size, 0, none⟩) 1 1, .slice none 0 0, .slice none 0 0] 65)
    have HB2 := Lib.hid hb2
    have HBS := Lib.hid HB.out.size
    have HALL := Lib.hid (landAll w1.heap.size (w1.heap.size + 1) (ts.length + 1) ts (start g ts) _ hmem (start_fit HG.out) (by have := HLN.out; omega) (by have := HLN.out; omega))
    clear hmem hb2
    refine HALL.out.mono ?_
    intro e w2 h2
    rcases hr : runW (start g ts) with ⟨c, p⟩ | τ
    · rw [hr] at h2
      obtain ⟨hc0, rfl, ⟨τ, hg, hpos, hm⟩, hf⟩ := h2
      have hcn : ((c : Int) != 0) = true := by simp; omega
      obtain ⟨t, r, hrest, -, -, -, -⟩ := hg.split
      have HPO := Lib.hid (show parseS g L = ([], t.pos, c) by rw [HP.out, hr]; show ([], p, c) = _; rw [← hpos, hrest]; rfl)
      have HM2 := Lib.hid hm
      have HR := Lib.hid hrest
      have HF2 := Lib.hid (HB2.out.trans (hf.below.mono HBS.out))
      have q3 := fieldT3 t.kind (Lex.bytes t.text) t.num t.pos
      clear hg hpos hm hf hr hc0 hrest
      go_wp2_with fail
      refine (landTok w1.heap.size (w1.heap.size + 1) ts τ t r _ HM2.out HR.out (by have := HLN.out; omega)).mono ?_
      rintro e w3 ⟨rfl, hb3⟩
      have HB3 := Lib.hid (HF2.out.trans (hb3.mono HF2.out.size))
      clear hb3
      go_wp2_with fail
      go_ret3
      exact ParseGot.none HPO.out HB3.out
    · rw [hr] at h2
      obtain ⟨rfl, hm, hf⟩ := h2
      obtain ⟨tv, ov, nv, rv, SN, hm⟩ := hm
      obtain ⟨A, cc, hnv, hnodes, hle, hmx⟩ := (hm.nds.mono (S' := Any) fun _ _ _ => trivial).reads (fun _ _ _ => trivial)
      subst hnv
      rw [hm.ndl] at hnodes
      have hSN : SN.length = τ.nodes.length := by rw [← hm.ndl, List.length_map]
      rw [hSN] at hm hle
      have k5 := hm.blk.cell 5 rfl
      have HPO := Lib.hid (show parseS g L = (τ.nodes, 0, 0) by rw [HP.out, hr]; rfl)
      have HF2 := Lib.hid (HB2.out.trans (hf.below.mono HBS.out))
      have HN := Lib.hid (And.intro hnodes (And.intro hle hmx))
      clear hm hnodes hle hmx hSN hf hr
      go_wp2_with fail
      go_ret3
      rw [HPO.out]
      exact ⟨_, _, _, rfl, rfl, HN.out.1, HN.out.2.1, HN.out.2.2, HF2.out⟩
  · have hcn : ((c : Int) != 0) = true := by simp; omega
    have HPO := Lib.hid (show parseS g L = ([], p, c) by unfold parseS; rw [if_pos (by rw [hc]; exact hc0), hp, hc])
    clear hs hL hts hp hc hc0
    go_enter Tryd.func19, Tryd.ntmps19
    go_wp2_with fail
    refine HX.out.mono ?_
    rintro e w1 ⟨v, rfl, ht, hb⟩
    have HB := Lib.hid hb
    clear ht hb
    go_wp2_with fail
    go_ret3
    exact ParseGot.none HPO.out HB.out

theorem landParse (s : ByteArray) (w : World) (hs : s.size ≤ maxLen) : Calls Tryd.prog 8 #[.string s] w (ParseGot w (parseS false s.data.toList)) := by
  have HR := Lib.hid (landRead s false w hs)
  clear hs
  go_enter Tryd.func8, Tryd.ntmps8
  go_wp2_with fail
  refine HR.out.mono ?_
  rintro e w1 ⟨A, n, c, rfl, h2⟩
  have H2 := Lib.hid h2
  clear h2
  go_wp2_with fail
  go_ret3
  exact ⟨_, _, _, rfl, H2.out⟩
theorem landRegex (s : ByteArray) (w : World) (hs : s.size ≤ maxLen) : Calls Tryd.prog 9 #[.string s] w (ParseGot w (parseS true s.data.toList)) := by
  have HR := Lib.hid (landRead s true w hs)
  clear hs
  go_enter Tryd.func9, Tryd.ntmps9
  go_wp2_with fail
  refine HR.out.mono ?_
  rintro e w1 ⟨A, n, c, rfl, h2⟩
  have H2 := Lib.hid h2
  clear h2
  go_wp2_with fail
  go_ret3
  exact ⟨_, _, _, rfl, H2.out⟩
end Go.Proofs.YtnoghlhggeffnaaDoor.Parse

namespace Go.Proofs.YtnoghlhggeffnaaDoor.Parse
open Go.RowKit Go.Proofs.YtnoghlhggeffnaaDoor.Ints Go.Proofs.YtnoghlhggeffnaaDoor.Lex Go.Proofs.YtnoghlhggeffnaaDoor.Tree

/-- The kind of a node of a list that was read. -/
theorem Nodes.kind {w : World} {A : Option Addr} {l : List Nd} (h : Nodes Any w A l) (h0 : 0 < l.length) : ∃ b off, A = some ⟨b, off, none⟩ ∧ ∀ (j : Nat) (n : Nd), l[j]? = some n → w.cell? ⟨b, off + j * 5, none⟩ = some (.int .i64 n.kind) ∧ w.cell? ⟨b, off + j * 5 + 1, none⟩ = some (.string n.name) := by
  obtain ⟨b, off, e, hn⟩ := h h0
  refine ⟨b, off, e, fun j n hj => ?_⟩
  have := hn j n hj
  rw [Nat.mul_comm 5 j] at this
  exact ⟨this.1, this.2.1⟩
theorem out_split {x : List Nd × Nat × Nat} {p c : Nat} (h : x.2 = (p, c)) : ∃ l, x = (l, p, c) ∧ x.1 = l := ⟨x.1, by rw [← h], rfl⟩
set_option maxHeartbeats 8000000 in
set_option maxRecDepth 100000 in
theorem awake (w : World) : Calls Tryd.prog 14 #[] w fun e w' => e = .returned (.bool true) ∧ Below w.heap.size w w' := by
  obtain ⟨l1, e1, k1⟩ := out_split awake1.1
  have hk1 := awake1.2
  rw [k1] at hk1
  obtain ⟨l2, e2, k2⟩ := out_split awake2.1
  have H1 := Lib.hid (fun W => landParse ⟨#[111, 110, 99, 101, 91, 50, 44, 53, 93, 32, 112, 32, 38, 32, 113]⟩ W (by decide))
  have H2 := Lib.hid (fun W => landRegex ⟨#[112, 32, 113]⟩ W (by decide))
  rw [show parseS false (ByteArray.mk #[111, 110, 99, 101, 91, 50, 44, 53, 93, 32, 112, 32, 38, 32, 113]).data.toList = (l1, 0, 0) from e1] at H1
  rw [show parseS true (ByteArray.mk #[112, 32, 113]).data.toList = (l2, 0, 2) from e2] at H2
  have hl1 : l1.length = 4 := by have := congrArg List.length hk1; rw [List.length_map] at this; exact this
  obtain ⟨n3, hn3⟩ : ∃ n, l1[3]? = some n := ⟨_, List.getElem?_eq_getElem (by omega)⟩
  have hkd : n3.kind = 5 := by
    have := congrArg (·[3]?) hk1
    simp only [List.getElem?_map, hn3] at this
    simpa using this
  have HL := Lib.hid hl1
  have HN := Lib.hid hn3
  have HK := Lib.hid hkd
  clear e1 k1 hk1 e2 k2 hl1 hn3 hkd
  go_enter Tryd.func14, Tryd.ntmps14
  go_wp2_with fail
  refine (H1.out _).mono ?_
  rintro e w1 ⟨A, n, c, rfl, hn, hN, hc, -, hb⟩
  rw [HL.out] at hn
  subst hn
  have HN1 := Lib.hid hN
  have HB1 := Lib.hid hb
  have hc4 : (4 : Int) ≤ (c : Int) := by omega
  clear hN hb hc
  go_wp2_with fail
  refine (H2.out _).mono ?_
  rintro e w2 ⟨A2, n2, c2, rfl, -, -, -, -, hb2⟩
  obtain ⟨b, off, rfl, hcell⟩ := Nodes.kind (HN1.out.below hb2) (by rw [HL.out]; decide)
  have k3 := (hcell 3 n3 HN.out).1
  rw [HK.out] at k3
  have HB2 := Lib.hid (HB1.out.trans (hb2.mono HB1.out.size))
  clear hb2 hcell
  go_wp2_with fail
  go_ret
  exact ⟨rfl, HB2.out⟩
end Go.Proofs.YtnoghlhggeffnaaDoor.Parse
