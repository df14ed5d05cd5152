/-
  The walk of the laws' awake. By an AI agent.
-/
import Derived.Test.YtbehlceacgaebaaParseRead
namespace Go.Proofs.Ytbehlceacgaebaa.Parse
open Go.RowKit Go.Proofs.Ytbehlceacgaebaa.Ints Go.Proofs.Ytbehlceacgaebaa.Lex Go.Proofs.Ytbehlceacgaebaa.Tree

/-- The kind of a node of a list that was read. -/
theorem Nodes.kind {w : World} {A : Option Addr} {l : List Nd} (h : Nodes Any w A l) (h0 : 0 < l.length) : ∃ b off, A = some ⟨b, off, none⟩ ∧ ∀ (j : Nat) (n : Nd), l[j]? = some n → w.cell? ⟨b, off + j * 5, none⟩ = some (.int .i64 n.kind) ∧ w.cell? ⟨b, off + j * 5 + 1, none⟩ = some (.string n.name) := by
  obtain ⟨b, off, e, hn⟩ := h h0
  refine ⟨b, off, e, fun j n hj => ?_⟩
  have := hn j n hj
  rw [Nat.mul_comm 5 j] at this
  exact ⟨this.1, this.2.1⟩
theorem out_split {x : List Nd × Nat × Nat} {p c : Nat} (h : x.2 = (p, c)) : ∃ l, x = (l, p, c) ∧ x.1 = l := ⟨x.1, by rw [← h], rfl⟩
set_option maxHeartbeats 8000000 in
set_option maxRecDepth 100000 in
theorem awake (w : World) : Calls Try.prog 5 #[] w fun e w' => e = .returned (.bool true) ∧ Below w.heap.size w w' := by
  obtain ⟨l1, e1, k1⟩ := out_split awake1.1
  have hk1 := awake1.2
  rw [k1] at hk1
  obtain ⟨l2, e2, k2⟩ := out_split awake2.1
  have H1 := Lib.hid (fun W => landParse ⟨#[111, 110, 99, 101, 91, 50, 44, 53, 93, 32, 112, 32, 38, 32, 113]⟩ W (by decide))
  have H2 := Lib.hid (fun W => landRegex ⟨#[112, 32, 113]⟩ W (by decide))
  rw [show parseS false (ByteArray.mk #[111, 110, 99, 101, 91, 50, 44, 53, 93, 32, 112, 32, 38, 32, 113]).data.toList = (l1, 0, 0) from e1] at H1
  rw [show parseS true (ByteArray.mk #[112, 32, 113]).data.toList = (l2, 0, 2) from e2] at H2
  have hl1 : l1.length = 4 := by have := congrArg List.length hk1; rw [List.length_map] at this; exact this
  obtain ⟨n3, hn3⟩ : ∃ n, l1[3]? = some n := ⟨_, List.getElem?_eq_getElem (by omega)⟩
  have hkd : n3.kind = 5 := by
    have := congrArg (·[3]?) hk1
    simp only [List.getElem?_map, hn3] at this
    simpa using this
  have HL := Lib.hid hl1
  have HN := Lib.hid hn3
  have HK := Lib.hid hkd
  clear e1 k1 hk1 e2 k2 hl1 hn3 hkd
  go_enter Try.func5, Try.ntmps5
  go_wp2_with fail
  refine (H1.out _).mono ?_
  rintro e w1 ⟨A, n, c, rfl, hn, hN, hc, -, hb⟩
  rw [HL.out] at hn
  subst hn
  have HN1 := Lib.hid hN
  have HB1 := Lib.hid hb
  have hc4 : (4 : Int) ≤ (c : Int) := by omega
  clear hN hb hc
  go_wp2_with fail
  refine (H2.out _).mono ?_
  rintro e w2 ⟨A2, n2, c2, rfl, -, -, -, -, hb2⟩
  obtain ⟨b, off, rfl, hcell⟩ := Nodes.kind (HN1.out.below hb2) (by rw [HL.out]; decide)
  have k3 := (hcell 3 n3 HN.out).1
  rw [HK.out] at k3
  have HB2 := Lib.hid (HB1.out.trans (hb2.mono HB1.out.size))
  clear hb2 hcell
  go_wp2_with fail
  go_ret
  exact ⟨rfl, HB2.out⟩
end Go.Proofs.Ytbehlceacgaebaa.Parse
