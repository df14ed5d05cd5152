/-
  The walk of the law's has. By an AI agent.
-/
import Derived.Test.YtmahbocelckmcaaTreeApart1
import Derived.Test.YtmahbocelckmcaaTreeJoins1
namespace Go.Proofs.Ytmahbocelckmcaa.Tree
open Go.RowKit Go.Proofs.Ytmahbocelckmcaa.Ints

set_option maxHeartbeats 4000000 in
set_option maxRecDepth 100000 in
theorem lawHas (A : Option Addr) (n c : Nat) (l : List (List UInt8)) (s : List UInt8) (w : World) (hl : l.length = n) (hn : n ≤ 1048576) (h : Strs w A l) (hs : s ∈ l) :
    Calls Try.prog 23 #[.slice A n c, encStr s] w fun e w' => e = .returned (.bool true) ∧ Below w.heap.size w w' := by
  have hni : (n : Int) ≤ 1048576 := by omega
  have HL := Lib.hid hl
  have HH := Lib.hid h
  obtain ⟨i0, hi0, hs0⟩ := List.getElem_of_mem hs
  rw [hl] at hi0
  have HS := Lib.hid (show l[i0]? = some s by rw [← hs0]; exact List.getElem?_eq_getElem _)
  have HI := Lib.hid hi0
  unfold encStr
  obtain ⟨z, hz⟩ : ∃ z : ByteArray, ({ data := s.toArray } : ByteArray) = z := ⟨_, rfl⟩
  rw [hz]
  have HZ := Lib.hid hz
  clear hl h hs hs0 hi0 hz
  go_enter Try.func23, Try.ntmps23
  go_wp2
  go_loopw [9] (fun i wr => ∃ k : Nat, k ≤ i0 ∧ i = .int .i64 k ∧ wr = w) (fun i _ => n - (intOf i).toNat)
  case atStart => exact ⟨0, Nat.zero_le _, rfl, rfl⟩
  case round =>
    obtain ⟨k, hk, rfl, rfl⟩ := hrel
    have hk0 : (0 : Int) ≤ (k : Int) := by omega
    have hkn : (k : Int) < (n : Int) := by have := HI.out; omega
    obtain ⟨b, off, rfl, hc⟩ := HH.out (by have := HL.out; have := HI.out; omega)
    obtain ⟨x, hx⟩ : ∃ x, l[k]? = some x := ⟨_, List.getElem?_eq_getElem (by have := HL.out; have := HI.out; omega)⟩
    have d1 := hc k x hx
    unfold encStr at d1
    obtain ⟨y, hy⟩ : ∃ y : ByteArray, ({ data := x.toArray } : ByteArray) = y := ⟨_, rfl⟩
    rw [hy] at d1
    have HN := Lib.hid (show y ≠ z → k + 1 ≤ i0 from fun hne => by
      by_cases he : k = i0
      · subst he
        rw [HS.out] at hx
        injection hx with hx
        subst hx
        exact absurd (hy.symm.trans HZ.out) hne
      · omega)
    clear hc hx hy hk
    rcases hb : (y.toList == z.toList)
    · have hq := HN.out fun e => by subst e; simp at hb
      clear hi0
      go_wp2
      exact ⟨⟨k + 1, hq, by go_num, trivial⟩, by simp [intOf]; have := HI.out; omega⟩
    · clear hi0
      go_wp2
      go_ret
      exact ⟨rfl, Below.refl _ _⟩
end Go.Proofs.Ytmahbocelckmcaa.Tree
