/- What a mesh answers: dist, Dist, Nodes, Count. No condition. -/
import Derived.Test.YtgbadbkipaccgaaGreatMGet14
import Derived.LaidEqlPtr
namespace Go.Proofs.YtgbadbkipaccgaaGreat
open Go.RowKit
set_option maxRecDepth 20000

/-- the place of row r, column j, as it is reckoned -/
theorem plc_go {m r j : Nat} (hm : m ≤ 256) (hr : r < m) (hj : j < m) : ∃ R P : Nat, IntKind.i64.wrap ((r : Int) * (m : Int)) = (R : Int) ∧ IntKind.i64.wrap ((R : Int) + (j : Int)) = (P : Int) ∧ Hid (P = r * m + j) ∧ P < m * m := by
  have hlt := place_lt hr hj
  have hMM : m * m ≤ 256 * 256 := Nat.mul_le_mul hm hm
  refine ⟨r * m, r * m + j, ?_, ?_, hide rfl, hlt⟩
  · rw [← Int.natCast_mul, wrapI (by omega)]
  · rw [wrapI (by omega)]; omega
/-- how far, as a part keeps it -/
theorem pack_two {D : Int} (h : 0 ≤ D ∧ (D = 1099511627776 ∨ D ≤ 64770)) : (min D 65535 = 65535 ∧ D = 1099511627776) ∨ (min D 65535 = D ∧ D ≤ 64770) := by omega

set_option maxHeartbeats 2000000 in
theorem mdist_any {w : World} {p q gp B : Nat} {W H : Int} {N : Nat} {S mv : Nat → Int} {cnt : Int} (h : Ms w p q gp B W H N S mv cnt) {s i j : Nat} (hs : s < cntS W H) (hi : i < (nodesL W H N S s).length) (hj : j < (nodesL W H N S s).length) :
    Calls Tryz.prog 35 #[.pointer (some ⟨q, s * 3, none⟩), .int .i64 i, .int .i64 j] w fun e w' => e = .returned (.int .i64 (distF W H N S (ndI (nodesL W H N S s) i) (ndI (nodesL W H N S s) j))) ∧ Gr w w' := by
  obtain ⟨hm, hN⟩ := h.may
  have hbd := pack_two (dist_bd hm hN h.byte h.good (ndI (nodesL W H N S s) i) (ndI (nodesL W H N S s) j))
  have hpos := (dist_bd hm hN h.byte h.good (ndI (nodesL W H N S s) i) (ndI (nodesL W H N S s) j)).1
  obtain ⟨y, hp, d0, d1, d2⟩ := h.at hs
  have hlen := hp.nn
  have h60 := nodes_sixty (N := N) (f := S) (sec_of hs)
  obtain ⟨R, hR, hval⟩ := hp.rows
  rw [hlen] at hi hj h60
  have hv := hval i j hi hj
  obtain ⟨R0, P, e1, e2, HP, hlt⟩ := plc_go (by omega) hi hj
  rw [← HP.out] at hv
  rcases hR with h0 | ⟨gb, ea, hgb, hrow⟩
  · omega
  have d3 := hrow.cell hlt
  rw [hv] at d3
  rw [ea, hp.rn] at d2
  have hMM : y.nn * y.nn ≤ 60 * 60 := Nat.mul_le_mul h60 h60
  obtain ⟨M, hM⟩ : ∃ M, y.nn * y.nn = M := ⟨_, rfl⟩
  rw [hM] at d2 hlt hMM
  have hPi : (P : Int) < (M : Int) := by omega
  generalize distF W H N S (ndI (nodesL W H N S s) i) (ndI (nodesL W H N S s) j) = D at *
  generalize min D 65535 = X at *
  clear hM hv hval hp hN hm hlen hrow hi hj hs h
  rcases hbd with ⟨rfl, rfl⟩ | ⟨rfl, hD⟩
  · go_enter Tryz.func35, Tryz.ntmps35
    go_wp2_with fail
    go_quiet (fail)
    go_wp2_with fail
    go_ret
    exact ⟨rfl, (by repeat (first | exact Gr.refl _ | assumption | exact Dr.gr (by assumption) | refine Gr.alloc ?_ _ | refine Gr.drewN ?_ _ | refine Gr.drew ?_ | refine Gr.trans ?_ (by assumption) | refine Gr.trans ?_ (Dr.gr (by assumption))))⟩
  · have hne : ¬ X = 65535 := by omega
    have hw : IntKind.i64.wrap X = X := wrapI (by omega)
    go_enter Tryz.func35, Tryz.ntmps35
    go_wp2_with fail
    go_quiet (fail)
    go_wp2_with fail
    go_ret
    exact ⟨rfl, (by repeat (first | exact Gr.refl _ | assumption | exact Dr.gr (by assumption) | refine Gr.alloc ?_ _ | refine Gr.drewN ?_ _ | refine Gr.drew ?_ | refine Gr.trans ?_ (by assumption) | refine Gr.trans ?_ (Dr.gr (by assumption))))⟩

theorem mcount_any {w : World} {p q gp B : Nat} {W H : Int} {N : Nat} {S mv : Nat → Int} {cnt : Int} (h : Ms w p q gp B W H N S mv cnt) :
    Calls Tryz.prog 14 #[.pointer (some ⟨p, 0, none⟩)] w fun e w' => e = .returned (.int .u64 cnt) ∧ Dr w w' := by
  obtain ⟨c0, c1, c2⟩ := h.cells
  clear h
  go_enter Tryz.func14, Tryz.ntmps14
  go_wp2
  go_ret
  exact ⟨rfl, by repeat (first | exact Dr.refl _ | assumption | refine Dr.add ?_ | refine Dr.trans ?_ (by assumption))⟩

set_option maxHeartbeats 1000000 in
theorem mnodes_any {w : World} {p q gp B : Nat} {W H : Int} {N : Nat} {S mv : Nat → Int} {cnt : Int} (h : Ms w p q gp B W H N S mv cnt) (x : Int) :
    Calls Tryz.prog 11 #[.pointer (some ⟨p, 0, none⟩), .int .i64 x] w fun e w' => (∃ v, e = .returned v ∧ w'.ownsRow w.heap.size 3 1 v (nodesL W H N S x).length (flatN (nodesL W H N S x))) ∧ Gr w w' := by
  have HM := hide h
  obtain ⟨hm, hN⟩ := h.may
  have hn := h.bd.2.2.2.2
  clear h
  by_cases hx : 0 ≤ x ∧ x < (cntS W H : Int)
  · obtain ⟨s, rfl⟩ : ∃ s : Nat, x = s := ⟨x.toNat, by omega⟩
    have hs : s < cntS W H := by omega
    obtain ⟨y, hp, d0, d1, d2⟩ := HM.out.at hs
    have h60 := nodes_sixty (N := N) (f := S) (sec_of hs)
    have hlen := hp.nn
    have hle : y.nn ≤ 1000000 := by omega
    have HP := hide hp
    clear hp h60 hlen hN
    go_enter Tryz.func11, Tryz.ntmps11
    go_wp2_with (first | (go_at_call 32; refine (part_yes HM.out hs).mono ?_; rintro e w1 ⟨rfl, hd1⟩; replace d1 := cell_gr d1 hd1.gr) | (go_at_call 33; refine (icopy_any (HP.out.gr hd1.gr).nodes hle).mono ?_; rintro e w2 ⟨⟨v, rfl, ho⟩, hg2⟩))
    go_ret
    exact ⟨⟨_, rfl, own_baseI ho hd1.gr.size⟩, hd1.gr.trans hg2⟩
  · have e : nodesL W H N S x = [] := by
      have : isSectorB W H x = false := by
        rw [Bool.eq_false_iff]
        intro k
        obtain ⟨-, k1, k2⟩ := (isSectorB_iff _ _ _).1 k
        have := (cntS_eq hm).1
        omega
      unfold nodesL cellsL
      rw [if_neg (by simp [this])]
      rfl
    rw [e]
    have hx' : x < 0 ∨ (cntS W H : Int) ≤ x := by omega
    clear hx e hN
    go_enter Tryz.func11, Tryz.ntmps11
    go_wp2_with (go_at_call 32; refine (part_no HM.out hx').mono ?_; rintro e w1 ⟨rfl, hd1⟩)
    go_ret
    exact ⟨⟨_, rfl, ints_nil _ _⟩, hd1.gr⟩

theorem neq_ptr_same (w : World) (a : Addr) : (binOp .neq 64 (.pointer (some a)) (.pointer (some a))).run Tryz.prog w = .ok (.bool false) w := by
  obtain ⟨i0, hi, hz0, hz1, hz2⟩ := info_parts info_part
  have h : ∀ d : Nat, (Op.equalIn (d + 1) 64 (.pointer (some a)) (.pointer (some a))).run Tryz.prog w = .ok true w := fun d => by
    simp [Op.equalIn, run_underlying Tryz.underlying64, sizeOf, typeInfo, hi, run_sameAddr_same]
  simp only [binOp]
  simp [Op.equal, Op.maxDepth, h 9999]
theorem neq_ptr_other {w : World} {q x y t n : Nat} {f : Nat → Value} (hr : w.rowIs q t n f) (hne : x ≠ y) : (binOp .neq 64 (.pointer (some ⟨q, x, none⟩)) (.pointer (some ⟨q, y, none⟩))).run Tryz.prog w = .ok (.bool true) w := by
  obtain ⟨i0, hi, hz0, hz1, hz2⟩ := info_parts info_part
  obtain ⟨c, hc, -⟩ := hr
  have hsz : i0.size ≠ 0 := by omega
  have hn : (⟨q, x, none⟩ : Addr) ≠ ⟨q, y, none⟩ := fun e => by cases e; exact hne rfl
  have h : ∀ d : Nat, (Op.equalIn (d + 1) 64 (.pointer (some ⟨q, x, none⟩)) (.pointer (some ⟨q, y, none⟩))).run Tryz.prog w = .ok false w := fun d => by
    simp [Op.equalIn, run_underlying Tryz.underlying64, sizeOf, typeInfo, hi, hsz, run_sameAddr_other w hn hc hc]
  simp only [binOp]
  simp [Op.equal, Op.maxDepth, h 9999]

set_option maxHeartbeats 2000000 in
theorem mDist_any {w : World} {p q gp B : Nat} {W H : Int} {N : Nat} {S mv : Nat → Int} {cnt : Int} (h : Ms w p q gp B W H N S mv cnt) {c v cc : Nat} {f : Nat → Int} {ep : Int} {ver : Nat → Int} (g : Gd w gp c v W H N cc f ep ver) (a b : Int) :
    Calls Tryz.prog 13 #[.pointer (some ⟨p, 0, none⟩), .int .i64 a, .int .i64 b] w fun e w' => e = .returned (.int .i64 (distF W H N S a b)) ∧ Gr w w' := by
  have HM := hide h
  have HG := hide g
  obtain ⟨hm, hN⟩ := h.may
  have HA := hide (fun u (k : Gr w u) => mfind_any (h.gr k) (g.gr k) a)
  have HB := hide (fun u (k : Gr w u) => mfind_any (h.gr k) (g.gr k) b)
  clear h g
  cases ha : nodB W H N S a
  · have e1 : fdP W H N S q a = none := by unfold fdP; rw [ha]; rfl
    rw [e1] at HA
    rw [dist_not (fun k => by rw [ha] at k; cases k.1)]
    clear e1 ha hN
    generalize fdP W H N S q b = o at HB
    generalize fdK W H N S b = kb at HB
    generalize fdK W H N S a = ka at HA
    go_enter Tryz.func13, Tryz.ntmps13
    go_wp2_with (first | (go_at_call 34; refine (HB.out _ hg1).mono ?_; rintro e w2 ⟨rfl, hg2⟩) | (go_at_call 34; refine (HA.out _ (Gr.refl _)).mono ?_; rintro e w1 ⟨rfl, hg1⟩))
    go_ret
    exact ⟨rfl, hg1.trans hg2⟩
  · cases hb : nodB W H N S b
    · have e1 : fdP W H N S q a = some ⟨q, (sectorF W a).toNat * 3, none⟩ := by unfold fdP; rw [ha]; rfl
      have e2 : fdP W H N S q b = none := by unfold fdP; rw [hb]; rfl
      rw [e1] at HA
      rw [e2] at HB
      rw [dist_not (fun k => by rw [hb] at k; cases k.2.1)]
      clear e1 e2 ha hb hN
      generalize (sectorF W a).toNat * 3 = z at HA
      generalize fdK W H N S b = kb at HB
      generalize fdK W H N S a = ka at HA
      go_enter Tryz.func13, Tryz.ntmps13
      go_wp2_with (first | (go_at_call 34; refine (HB.out _ hg1).mono ?_; rintro e w2 ⟨rfl, hg2⟩) | (go_at_call 34; refine (HA.out _ (Gr.refl _)).mono ?_; rintro e w1 ⟨rfl, hg1⟩))
      go_ret
      exact ⟨rfl, hg1.trans hg2⟩
    · obtain ⟨s, hs, es, hk, hak⟩ := fd_at hm hN ha
      obtain ⟨t, ht, et, hk2, hbk⟩ := fd_at hm hN hb
      have e1 : fdP W H N S q a = some ⟨q, s * 3, none⟩ := by unfold fdP; rw [ha, es]; rfl
      have e2 : fdP W H N S q b = some ⟨q, t * 3, none⟩ := by unfold fdP; rw [hb, et]; rfl
      rw [e1] at HA
      rw [e2] at HB
      by_cases hst : s = t
      · subst hst
        have HD := hide (fun u (k : Gr w u) => mdist_any (HM.out.gr k) hs hk hk2)
        rw [← hak, ← hbk] at HD
        generalize fdK W H N S b = kb at *
        generalize fdK W H N S a = ka at *
        generalize distF W H N S a b = D at *
        have en := fun u => neq_ptr_same u ⟨q, s * 3, none⟩
        clear e1 e2 ha hb hN hs es et hk hk2 hak hbk ht
        go_enter Tryz.func13, Tryz.ntmps13
        go_wp2_with (first | (go_at_call 35; refine (HD.out _ (hg1.trans hg2)).mono ?_; rintro e w3 ⟨rfl, hg3⟩) | (go_at_call 34; refine (HB.out _ hg1).mono ?_; rintro e w2 ⟨rfl, hg2⟩) | (go_at_call 34; refine (HA.out _ (Gr.refl _)).mono ?_; rintro e w1 ⟨rfl, hg1⟩))
        go_ret
        exact ⟨rfl, (hg1.trans hg2).trans hg3⟩
      · rw [dist_not (fun k => by omega)]
        have hne : s * 3 ≠ t * 3 := by omega
        obtain ⟨P, hr, -⟩ := HM.out.parts
        have HR := hide hr
        clear hr
        generalize fdK W H N S b = kb at *
        generalize fdK W H N S a = ka at *
        generalize s * 3 = z1 at *
        generalize t * 3 = z2 at *
        clear e1 e2 ha hb hN hs es et hk hk2 hak hbk ht hst
        go_enter Tryz.func13, Tryz.ntmps13
        go_wp2_with (first | (go_at_call 34; refine (HB.out _ hg1).mono ?_; rintro e w2 ⟨rfl, hg2⟩; have en := neq_ptr_other (row_gr HR.out (hg1.trans hg2)) hne) | (go_at_call 34; refine (HA.out _ (Gr.refl _)).mono ?_; rintro e w1 ⟨rfl, hg1⟩))
        go_ret
        exact ⟨rfl, hg1.trans hg2⟩
end Go.Proofs.YtgbadbkipaccgaaGreat
