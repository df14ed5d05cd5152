/-
  The walk of the landed tree's Join. By an AI agent.
-/
import Derived.Test.YtmahbocelckmcaaTreeJoinM
import Derived.Deep.RegionHeld3
namespace Go.Proofs.Ytmahbocelckmcaa.Tree
open Go.RowKit Go.Proofs.Ytmahbocelckmcaa.Ints

section
variable {P : Program} {w : World}
/-- 'append(v, n)' at a step of a region that draws its order: v is the call's own row of nodes; n lies in a new block of five cells. -/
theorem step_append_nd {ops : Array Oper} {o : Oper} {a : Act} {K : Act → World → Prop} {Q : Exit → Act → World → Prop} {E : Prop} (hgd : o.guard = none) (s x : Operand) (t : TypeId)
    (ho : o.op = .call { callee := .builtin .append, args := #[s, x], argTypes := #[t, t] }) (base : Nat) (i : TypeInfo) (z : Value)
    (ht : P.underlying t = some (.slice 33)) (hi : P.info? 33 = some i) (hz : i.zero = some z) (hsize : i.size = 5) (hby : i.bytes = 64) (hzs : z.cells.size = 5)
    (v : Value) (l : List SNd) (hs : a.eval s = v) (S : Nat → Prop) (hown : OwnNodes S w base v l)
    (sn : SNd) (hk : KidOk (fun b => S b ∧ some b ≠ v.ownBlock) w sn) (T : TypeId) (cs : Array Value) (hcs : cs = (cellsS sn).toArray) (H : Nat) (hH : w.heap.size = H) (hx : a.eval x = .slice (some ⟨H, 0, none⟩) 1 1)
    (hl : l.length ≤ 4194304) (hbase : base ≤ w.heap.size)
    (h : ∀ v' w', OwnNodes S w' base v' (l ++ [sn]) → (w.alloc (.cells cs T)).grownBy w' v.ownBlock → (v'.ownBlock = v.ownBlock ∨ v'.ownBlock = some (w.alloc (.cells cs T)).heap.size) → K (a.put o.dst v') w') :
    if Region.wanted o (yielded ops a.tmps) = true then Oper.wp P o a (w.alloc (.cells cs T)) K Q else E := by
  have hw : Region.wanted o (yielded ops a.tmps) = true := by simp [Region.wanted, hgd]
  rw [if_pos hw]
  subst hcs
  subst hH
  obtain ⟨v', w', hrun, h1, h2, -, h4⟩ := run_append_own_at (P := P) (w.alloc (.cells (cellsS sn).toArray T)) base t o.type 33 i z 5 64 ht hi hz hsize hby hzs (by decide) v l.length (rowS l) (hown.1.alloc _) ⟨w.heap.size, 0, none⟩ 1 1 (cellsS sn) rfl (fun j u hu => by
      rw [show (⟨w.heap.size, 0, none⟩ : Addr).add j = ⟨w.heap.size, j, none⟩ by unfold Addr.add; split <;> simp_all]
      rw [cell_of_row _ w.heap.size j _ T (0, 0) (heap_alloc_new w _)]
      simpa using hu) (cellsS_one sn) (by have : maxLen = 9223372036854775807 := rfl; omega) (by omega) (by simp; omega)
  unfold Oper.wp
  simp [execOp, ho, resolve, invoke, builtin, hs, hx, hrun, Result.andThen]
  refine h v' w' (own_grown (w1 := w.alloc (.cells (cellsS sn).toArray T)) (fun s hs => (hown.2 s hs).below ((Below.refl _ _).alloc (Nat.le_refl _) _)) (fun s hs => by rw [List.mem_singleton.1 hs]; exact hk.below ((Below.refl _ _).alloc (Nat.le_refl _) _)) ?_ h2 h4) h2 h4
  rw [rowS_append, List.length_append]
  have e : rowS [sn] = cellsS sn := by simp [rowS]
  rw [e]
  exact h1
end

theorem all_upto {σ : List SL} {n : Nat} (hn : σ.length = n) (h : ∀ (j : Nat) (s : SL), j < n → σ[j]? = some s → mayL s.1 = true) : (σ.map (·.1)).all mayL = true := by
  rw [List.all_eq_true]
  intro l hl
  obtain ⟨s, hs, rfl⟩ := List.mem_map.1 hl
  obtain ⟨j, hj, rfl⟩ := List.getElem_of_mem hs
  exact h j _ (by omega) (List.getElem?_eq_getElem hj)

set_option maxHeartbeats 16000000 in
set_option maxRecDepth 100000 in
theorem landJoin (nd0 : Nd) (K0 : Option Addr) (c0 : Nat) (A : Option Addr) (n c : Nat) (σ : List SL) (w : World) (hn : σ.length = n) (hn2 : n ≤ 1048576) (hlen : ∀ s ∈ σ, s.1.length ≤ 100000) (h0 : NodeOk w nd0 K0 c0) (hnm : nd0.name.size ≤ 281474976710656) (hA : Lists Any w A σ) :
    Calls Try.prog 18 #[.agg #[.int .i64 nd0.kind, .string nd0.name, .int .i64 nd0.lo, .int .i64 nd0.hi, .slice K0 nd0.kids.length c0], .slice A n c] w (GotNodes Any w (joinL nd0 (σ.map (·.1)))) := by
  obtain ⟨i0, hi0, hz0, hz1, hz2⟩ := info_parts infoInt
  obtain ⟨j0, hj0, hy0, hy1, hy2⟩ := info_parts infoNode
  rw [← jL_eq]
  have hni : (n : Int) ≤ 1048576 := by omega
  have HKC := Lib.hid (fun W => landKidCount nd0.kind W)
  obtain ⟨q, hq⟩ : ∃ q, kidc nd0.kind = q := ⟨_, rfl⟩
  rw [hq] at HKC
  have hq2 : q ≤ 2 := by rw [← hq]; exact kidc_le _
  have HQ := Lib.hid hq
  have HN := Lib.hid hn
  have HLN := Lib.hid hlen
  have HOK := Lib.hid h0
  have HLS := Lib.hid hA
  have HNM := Lib.hid hnm
  clear hn hlen h0 hA hq hnm
  obtain ⟨mk, hmk⟩ : ∃ mk, nd0.kids.length = mk := ⟨_, rfl⟩
  have HMK := Lib.hid hmk
  rw [hmk]
  clear hmk
  by_cases hnq : n = q
  · subst hnq
    have hne : ((n : Int) != (n : Int)) = false := by simp
    have HJL := Lib.hid (jFold_len (B := 100000) (σ.map (·.1)) (fun l hl => by obtain ⟨s, hs, rfl⟩ := List.mem_map.1 hl; exact HLN.out s hs))
    have hml : (σ.map (·.1)).length = n := by rw [List.length_map, HN.out]
    have HML := Lib.hid hml
    clear hml
    go_enter Try.func18, Try.ntmps18
    go_wp2_with (go_at_call 40; refine (HKC.out _).mono ?_; rintro e w' ⟨rfl, rfl⟩)
    go_loopw [5, 6, 22] (fun v kv i wr => ∃ (k : Nat) (L : List SNd) (ka : List Int), k ≤ n ∧ i = .int .i64 k ∧ Hid (OverAt Any w #[.int .i64 nd0.kind, .string nd0.name, .int .i64 nd0.lo, .int .i64 nd0.hi, .slice K0 mk c0] kv ka v L wr ∧ (L.map (·.1), ka) = jFold ((σ.map (·.1)).take k) ∧ ∀ (j : Nat) (s : SL), j < k → σ[j]? = some s → mayL s.1 = true)) (fun _ _ i _ => n - (intOf i).toNat)
    case atStart => exact ⟨0, [], [], Nat.zero_le _, rfl, join_start w _, rfl, fun j s hj => absurd hj (by omega)⟩
    case round =>
      obtain ⟨k, L, ka, hk, rfl, HR⟩ := hrel
      obtain ⟨⟨Av, cv, rfl⟩, ⟨Ak, ck, rfl⟩⟩ := HR.out.1.slices
      have hjl := HJL.out k (by rw [HML.out]; exact hk)
      rw [← HR.out.2.1] at hjl
      obtain ⟨hl1, hl2, hl3⟩ := hjl
      simp only [List.length_map] at hl1 hl2
      have HL3 := Lib.hid hl3
      have hLL : (L.length : Int) ≤ 200000 := by omega
      obtain ⟨p, hp⟩ : ∃ p, L.length = p := ⟨_, rfl⟩
      have HP := Lib.hid hp
      have HKA := Lib.hid hl2
      rw [hp] at hLL ⊢
      rw [hl2]
      clear hl1 hl3 hp
      by_cases hkn : k < n
      · have hkn' : (k : Int) < (n : Int) := by omega
        have hB := HR.out.1.2.2.2.1
        obtain ⟨s, hs⟩ : ∃ s, σ[k]? = some s := ⟨_, List.getElem?_eq_getElem (by have := HN.out; omega)⟩
        obtain ⟨g, off, eA, -, hc⟩ := (HLS.out.below hB) (by have := HN.out; omega)
        obtain ⟨x0, hok, hsc, hcm⟩ := hc k s hs
        have hl := HLN.out s (List.mem_of_getElem? hs)
        obtain ⟨l, K, cK⟩ := s
        obtain ⟨m, hm⟩ : ∃ m, l.length = m := ⟨_, rfl⟩
        simp only at hl hok hsc hcm
        have x1 : wr.cell? ⟨g, off + k, none⟩ = some (.slice K m cK) := by rw [x0]; show some (Value.slice K l.length cK) = _; rw [hm]
        have HMY := Lib.hid (landMay K m cK l wr hm (by omega) hok)
        have HS := Lib.hid hs
        have HOKL := Lib.hid hok
        have HOKW := Lib.hid (show Nodes Any w K l by
          obtain ⟨gw, offw, ew, -, hcw⟩ := HLS.out (by have := HN.out; omega)
          exact (hcw k _ hs).2.1)
        have HL := Lib.hid hm
        have hls : (σ.map (·.1))[k]? = some l := by rw [List.getElem?_map, hs]; rfl
        have HLS2 := Lib.hid hls
        have hmi : (m : Int) ≤ 100000 := by omega
        have HB := Lib.hid hB
        subst eA
        rcases hmy : mayL l
        · rw [hmy] at HMY
          have HJ := Lib.hid (jL_bad (nd := nd0) (ls := σ.map (·.1)) (Or.inr (Or.inl (all_bad hls hmy))))
          clear hs hc x0 hok hm hls hmy hsc hcm hl hB hl2
          go_wp2_with (go_at_call 27; refine HMY.out.mono ?_; rintro e w1 ⟨rfl, hb1⟩)
          go_ret
          rw [HJ.out]
          exact GotNodes.none0 (HB.out.trans (hb1.mono HB.out.size))
        · rw [hmy] at HMY
          have HM := Lib.hid hmy
          clear hs hc x0 hok hm hls hmy hsc hcm hl hB hl2
          go_wp2_with (go_at_call 27; refine HMY.out.mono ?_; rintro e w1 ⟨rfl, hb1⟩; have HR1 := Lib.hid (HR.out.1.below hb1); have HB1 := Lib.hid (HB.out.trans (hb1.mono HB.out.size)); have HO1 := Lib.hid (HOKL.out.below hb1); clear hb1)
          have HR1' : OverAt Any w #[.int .i64 nd0.kind, .string nd0.name, .int .i64 nd0.lo, .int .i64 nd0.hi, .slice K0 mk c0] (.slice Ak k ck) ka (.slice Av p cv) L w1 := by have := HR1.out; rw [HP.out, HKA.out] at this; exact this
          replace HR1 := Lib.hid HR1'
          clear HR1'
          have HR1' := HR1
          go_loopw [5, 33] (fun v i wx => ∃ (j : Nat) (L' : List SNd), j ≤ m ∧ i = .int .i64 j ∧ Hid (OverAt Any w #[.int .i64 nd0.kind, .string nd0.name, .int .i64 nd0.lo, .int .i64 nd0.hi, .slice K0 mk c0] (.slice Ak k ck) ka v L' wx ∧ L'.map (·.1) = L.map (·.1) ++ (l.map (shiftNd (p : Int))).take j)) (fun _ i _ => m - (intOf i).toNat)
          case atStart => exact ⟨0, L, Nat.zero_le _, by rfl, HR1'.out, by rw [List.take_zero, List.append_nil]⟩
          case round =>
            obtain ⟨j, L', hj, rfl, HX⟩ := hrel
            have hBx := HX.out.1.2.2.2.1
            have HBX := Lib.hid hBx
            have HLEN := Lib.hid (show L'.length = p + j by
              have := congrArg List.length HX.out.2
              rw [List.length_append, List.length_map, List.length_map, List.length_take, List.length_map, HP.out, HL.out] at this
              omega)
            by_cases hjm : j < m
            · have hjm' : (j : Int) < (m : Int) := by omega
              obtain ⟨nd, hnd⟩ : ∃ nd, l[j]? = some nd := ⟨_, List.getElem?_eq_getElem (by have := HL.out; omega)⟩
              obtain ⟨b, off2, eK, hnodes⟩ := (HOKW.out.below hBx) (by have := HL.out; omega)
              obtain ⟨x0, x1', x2, x3, s0, s2, s3, s1, K2, c2, x4, hK2, hKc2, hcK2, -, -⟩ := hnodes j nd hnd
              rw [Nat.mul_comm 5 j] at x0 x1' x2 x3 x4
              obtain ⟨m2, hm2⟩ : ∃ m2, nd.kids.length = m2 := ⟨_, rfl⟩
              have HMV := Lib.hid (fun W (hb : Below wr.heap.size wr W) => landMoved nd K2 m2 c2 (p : Int) W hm2 ⟨s0, s2, s3, s1, hK2.below hb, hKc2, hcK2⟩ (by rw [← hm2]; have := may_arity HM.out hnd; omega) (fun x hx => by have := may_kids HM.out hnd x hx; omega) (by omega) (by have := may_name HM.out hnd; omega))
              rw [hm2] at x4
              have HND := Lib.hid hnd
              have HSL := Lib.hid (show L'.length ≤ 4194304 by have := HLEN.out; omega)
              subst eK
              clear hnd hnodes hK2 hm2 s0 s1 s2 s3 hKc2 hcK2 hBx
              go_wp2_with (first
                | (go_at_call 41; refine (HMV.out _ ((Below.refl _ _).alloc (Nat.le_refl _) _)).mono ?_; rintro e w2 ⟨K', c', rfl, hk1, hb1⟩; have HBW := Lib.hid (below_box hb1); have HOX := Lib.hid (HX.out.1.below HBW.out); have HQ2 := Lib.hid (show w.heap.size + 1 ≤ w2.heap.size by have := HX.out.1.2.2.1.lt; have := HBW.out.size; omega); have HKN := Lib.hid (hk1.mono (S' := fun b => Apart Any w.heap.size (.slice Ak k ck) b ∧ some b ≠ u5.ownBlock) fun b _ hb => kid_apart HX.out.1 (by simpa using hb)); clear hk1 hb1)
                | (at_builtin; (refine wpList_append_nd rfl (.tmp 37) (.tmp 41) 22 rfl (w.heap.size + 1) j0 _ Try.underlying22 hj0 hy0 hy1 hy2 rfl _ L' (by rfl) (Apart Any w.heap.size (.slice Ak k ck)) HOX.out.1 (shiftNd (p : Int) nd, K', c') HKN.out _ _ (by rfl) w2.heap.size rfl (by rfl) HSL.out HQ2.out ?_); intro v3 w3 hown3 hgr3 hat3))
              go_roundw
              case rel =>
                refine ⟨j + 1, L' ++ [(shiftNd (p : Int) nd, K', c')], by omega, by go_num, HX.out.1.next HBW.out hown3 hgr3 hat3, ?_⟩
                rw [List.map_append, HX.out.2, List.append_assoc, shift_next HND.out]
                rfl
              case measure => simp [intOf]; omega
            · have hge : decide ((j : Int) < (m : Int)) = false := by simp; omega
              have hjm2 : j = m := by omega
              obtain ⟨⟨Av', cv', eV⟩, -⟩ := HX.out.1.slices
              have hmap : L'.map (·.1) = L.map (·.1) ++ l.map (shiftNd (p : Int)) := by
                rw [HX.out.2, List.take_of_length_le (by rw [List.length_map, HL.out]; omega)]
              obtain ⟨p2, hp2⟩ : ∃ p2, L'.length = p2 := ⟨_, rfl⟩
              have hp2e : p2 = p + m := by rw [← hp2, HLEN.out, hjm2]
              have hp2i : (p2 : Int) ≤ 300000 := by omega
              have hp20 : (0 : Int) ≤ (p2 : Int) := by omega
              rw [hp2] at eV
              subst eV
              have HMAP := Lib.hid hmap
              have HP2 := Lib.hid hp2e
              have HKO := Lib.hid (show wr.ownsRow (w.heap.size + 1) 3 1 (.slice Ak k ck) k (ka.map (Value.int .i64)) by have := HX.out.1.2.1; rw [HKA.out] at this; exact this)
              have HBZ := Lib.hid (show w.heap.size + 1 ≤ wr.heap.size from HX.out.1.2.2.1.lt)
              clear hjm2 hmap hp2 hp2e hBx
              go_wp2_with (at_builtin; (refine wpList_append_int1 rfl (.tmp 44) (.tmp 48) 31 rfl .i64 (w.heap.size + 1) 3 i0 Try.underlying31 hi0 hz0 hz1 hz2 (.slice Ak k ck) k ka (by rfl) HKO.out ((p2 : Int) - 1) _ _ (by rfl) wr.heap.size rfl (by rfl) (by omega) HBZ.out ?_); intro v4 w4 hown4 hgr4 hat4)
              go_roundw
              case rel =>
                refine ⟨k + 1, L', ka ++ [(p2 : Int) - 1], by omega, by go_num, HX.out.1.place (by rw [List.length_append, HKA.out]; exact hown4) hgr4 hat4, ?_, fun j' s' hj' hs' => ?_⟩
                · obtain ⟨h1, h2⟩ := List.getElem?_eq_some_iff.1 HLS2.out
                  rw [List.take_succ_eq_append_getElem h1, jFold_snoc, ← HR.out.2.1, h2, HMAP.out]
                  unfold jStep
                  simp only [List.length_map, HP.out, HL.out]
                  rw [HP2.out]
                · by_cases hjk : j' = k
                  · subst hjk
                    rw [HS.out] at hs'
                    injection hs' with hs'
                    subst hs'
                    exact HM.out
                  · exact HR.out.2.2 j' s' (by omega) hs'
              case measure => simp [intOf]; omega
      · have hge : decide ((k : Int) < (n : Int)) = false := by simp; omega
        have hkn2 : k = n := by omega
        subst hkn2
        obtain ⟨Kr, cr, er, hO, hX, hB, hrow, hne2⟩ := over_end0 HR.out.1
        rw [HKA.out] at er hrow hne2
        rw [HP.out] at hO hne2
        injection er with er1 _ er2
        subst er1; subst er2
        have hla : σ.length = k := HN.out
        have HRES := Lib.hid (show ((L ++ [({ nd0 with kids := ka }, Ak, ck)] : List SNd).map (·.1)) = jRes nd0 (σ.map (·.1)) by
          have := HR.out.2.1
          rw [List.take_of_length_le (by rw [HML.out]; exact Nat.le_refl _)] at this
          rw [List.map_append]
          unfold jRes
          rw [← this]
          rfl)
        have HALLM := Lib.hid (all_upto hla HR.out.2.2)
        obtain ⟨s0, s2, s3, s1, -⟩ := HOK.out
        have hz : ∀ z ∈ ka, (Lit.int .i64 z).wf = true := fun z hz => by
          have := HL3.out z hz
          exact WalkArith.wf_i64 (by omega)
        obtain ⟨K2, c2, e2, hkid⟩ := kid_own (S := fun b => w.heap.size + 1 ≤ b) (nd := nd0) (ks := ka) (by rw [HKA.out]; exact hrow) hz s0 s2 s3 s1 (fun b hb => hb)
        rw [HKA.out] at e2
        injection e2 with e21 _ e22
        subst e21; subst e22
        have HKR := Lib.hid (show KidOk (fun q => Strict Any w.heap.size q ∧ some q ≠ (Value.slice Av p cv).ownBlock) wr ({ nd0 with kids := ka }, Ak, ck) from ⟨hkid.1, fun a ea hp => ⟨Or.inr (by have := hkid.2 a ea hp; omega), fun e => hne2 a.block (by simp only at ea; rw [ea]; rfl) e⟩⟩)
        have HOO := Lib.hid hO
        have HCL := Lib.hid (fun W => cloneStr nd0.name W s1 HNM.out)
        have HCS := Lib.hid (show (#[.int .i64 nd0.kind, .string nd0.name, .int .i64 nd0.lo, .int .i64 nd0.hi, .slice Ak k ck] : Array Value) = (cellsS ({ nd0 with kids := ka }, Ak, ck)).toArray by unfold cellsS; simp only; rw [HKA.out])
        have c0' := hX.cell 0 _ rfl
        have c1' := hX.cell 1 _ rfl
        have c2' := hX.cell 2 _ rfl
        have c3' := hX.cell 3 _ rfl
        have HALL := Lib.hid (show ∀ W, Below (w.heap.size + 1) wr W → W.cell? ⟨w.heap.size, 0, none⟩ = some (.int .i64 nd0.kind) ∧ W.cell? ⟨w.heap.size, 1, none⟩ = some (.string nd0.name) ∧ W.cell? ⟨w.heap.size, 2, none⟩ = some (.int .i64 nd0.lo) ∧ W.cell? ⟨w.heap.size, 3, none⟩ = some (.int .i64 nd0.hi) ∧ Below (w.heap.size + 1) wr W from
          fun W hb => ⟨(hb.cell (p := ⟨w.heap.size, 0, none⟩) (by simp)).trans c0', (hb.cell (p := ⟨w.heap.size, 1, none⟩) (by simp)).trans c1', (hb.cell (p := ⟨w.heap.size, 2, none⟩) (by simp)).trans c2', (hb.cell (p := ⟨w.heap.size, 3, none⟩) (by simp)).trans c3', hb⟩)
        have HBZ := Lib.hid (show w.heap.size + 1 ≤ wr.heap.size from hX.lt)
        have HBB := Lib.hid hB
        have HSL := Lib.hid (show L.length ≤ 4194304 by have := HP.out; omega)
        have HVN := Lib.hid (show ∀ q, (Value.slice Av p cv).ownBlock = some q → w.heap.size + 1 ≤ q from fun q hq => (hO.1.lt q hq).1)
        clear hO hX hB hrow hne2 hkid hz s0 s1 s2 s3 c0' c1' c2' c3' hl2 hla
        go_wp2
        go_region_held3 (fun W => W.cell? ⟨w.heap.size, 0, none⟩ = some (.int .i64 nd0.kind) ∧ W.cell? ⟨w.heap.size, 1, none⟩ = some (.string nd0.name) ∧ W.cell? ⟨w.heap.size, 2, none⟩ = some (.int .i64 nd0.lo) ∧ W.cell? ⟨w.heap.size, 3, none⟩ = some (.int .i64 nd0.hi) ∧ Below (w.heap.size + 1) wr W)
          (first
            | exact HALL.out _ (Below.refl _ _)
            | exact HALL.out _ (Below.refl _ _).drew
            | exact HALL.out _ hB22
            | exact HALL.out _ hB24
            | exact HALL.out _ (bel_alloc hB22 (Below.size hB22'))
            | (go_split_ands; first
                | exact HALL.out _ (bel_alloc (by assumption) hB22z)
                | exact HALL.out _ (bel_alloc_drew (by assumption) hB22z))
            | fail)
          (first
            | (go_at_call 42; refine (HCL.out _).mono ?_; rintro e w5 ⟨rfl, hb5⟩; have hB22' : Below wr.heap.size wr w5 := (by first | exact undrew1 hb5 | exact undrewN hb5 | exact hb5); have hB22 : Below (w.heap.size + 1) wr w5 := hB22'.mono HBZ.out; have hB22z : w.heap.size + 1 ≤ w5.heap.size := Nat.le_trans HBZ.out hB22'.size)
            | (refine step_append_nd rfl (.tmp 51) (.tmp 61) 22 (by rfl) (w.heap.size + 1) j0 _ Try.underlying22 hj0 hy0 hy1 hy2 (by rfl) (.slice Av p cv) L (by rfl) (Strict Any w.heap.size) (HOO.out.below hB22') ({ nd0 with kids := ka }, Ak, ck) (HKR.out.below hB22') _ _ HCS.out w5.heap.size rfl (by rfl) HSL.out hB22z ?_; intro v6 w6 hown6 hgr6 hat6; have hB24 : Below (w.heap.size + 1) wr w6 := (bel_alloc hB22 hB22z).grown hgr6 (le_alloc hB22z) HVN.out)
            | fail)
        obtain ⟨A6, c6, e6, hN6, hl6, hm6⟩ := (hown6.mono (S' := Any) fun _ _ _ => trivial).reads (fun _ _ _ => trivial)
        rw [HRES.out] at hN6
        have hlr : (L ++ [({ nd0 with kids := ka }, Ak, ck)]).length = p + 1 := by rw [List.length_append, HP.out]; rfl
        have hlj : (jRes nd0 (σ.map (·.1))).length = p + 1 := by rw [← HRES.out, List.length_map, hlr]
        rw [hlr] at e6 hl6
        subst e6
        have HMY := Lib.hid (landMay A6 (p + 1) c6 (jRes nd0 (σ.map (·.1))) w6 hlj (by omega) hN6)
        have HN6 := Lib.hid hN6
        have HLJ := Lib.hid hlj
        have HLM := Lib.hid (And.intro hl6 hm6)
        have HB6 := Lib.hid (show Below w.heap.size w w6 from HBB.out.trans (hB24.mono (Nat.le_succ _)))
        clear hN6 hlr hlj hl6 hm6 hown6 hgr6 hat6 hB22 hB22' hB22z hb5
        rcases hj : mayL (jRes nd0 (σ.map (·.1)))
        · rw [hj] at HMY
          have HJ := Lib.hid (jL_bad (nd := nd0) (ls := σ.map (·.1)) (Or.inr (Or.inr hj)))
          clear hj
          go_wp2_with (go_at_call 27; refine HMY.out.mono ?_; rintro e w7 ⟨rfl, hb7⟩)
          go_ret
          rw [HJ.out]
          exact GotNodes.none0 (HB6.out.trans (hb7.mono HB6.out.size))
        · rw [hj] at HMY
          have HJ := Lib.hid (show jL nd0 (σ.map (·.1)) = jRes nd0 (σ.map (·.1)) by unfold jL; rw [if_pos ⟨by rw [HQ.out, HML.out], HALLM.out, hj⟩])
          clear hj
          go_wp2_with (go_at_call 27; refine HMY.out.mono ?_; rintro e w7 ⟨rfl, hb7⟩)
          go_ret
          rw [HJ.out]
          exact ⟨A6, c6, by rw [HLJ.out]; rfl, HN6.out.below hb7, by rw [HLJ.out]; exact HLM.out.1, HLM.out.2, HB6.out.trans (hb7.mono HB6.out.size)⟩
  · have hne : ((n : Int) != (q : Int)) = true := bne_iff_ne.2 (by omega)
    have HJ := Lib.hid (jL_bad (nd := nd0) (ls := σ.map (·.1)) (Or.inl (by rw [HQ.out, List.length_map, HN.out]; omega)))
    clear hnq
    go_enter Try.func18, Try.ntmps18
    go_wp2_with (go_at_call 40; refine (HKC.out _).mono ?_; rintro e w' ⟨rfl, rfl⟩)
    go_ret
    rw [HJ.out]
    exact GotNodes.none0 ((Below.refl _ _).alloc (Nat.le_refl _) _)
end Go.Proofs.Ytmahbocelckmcaa.Tree
