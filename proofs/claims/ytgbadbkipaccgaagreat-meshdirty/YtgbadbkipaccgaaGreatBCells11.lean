/- What border's Cells and Nodes make: rows of their own; nothing that was there is written. -/
import Derived.Test.YtgbadbkipaccgaaGreatBOver11
import Derived.Test.YtgbadbkipaccgaaGreatLNat
namespace Go.Proofs.YtgbadbkipaccgaaGreat
open Go.RowKit
set_option maxRecDepth 20000

set_option maxHeartbeats 1500000 in
theorem bcells_no (W H s : Int) (w : World) (hs : isSectorB W H s = false) :
    Calls Tryz.prog 79 #[.int .i64 W, .int .i64 H, .int .i64 s] w fun e w' => (∃ v, e = .returned v ∧ w'.ownsRow w.heap.size 3 1 v (cellsL W H s).length (flatN (cellsL W H s))) ∧ Gr w w' := by
  have E : Hid (cellsL W H s = []) := hide (by unfold cellsL; rw [if_neg (by simp [hs])])
  rw [E.out]
  go_enter Tryz.func79, Tryz.ntmps79
  go_wp2_with (go_at_call 81; refine (size_no _ _ _ _ hs).mono ?_; rintro e w' ⟨rfl, hd⟩)
  go_loopw [9, 22] (fun v i u => v = .slice none 0 0 ∧ i = .int .i64 0 ∧ Dr w u) (fun _ _ _ => 0)
  case atStart => exact ⟨rfl, rfl, by repeat (first | exact Dr.refl _ | assumption | refine Dr.add ?_ | refine Dr.trans ?_ (by assumption))⟩
  case round =>
    obtain ⟨rfl, rfl, hd⟩ := hrel
    go_wp2
    go_ret
    exact ⟨⟨_, rfl, ints_nil _ _⟩, hd.gr⟩

set_option maxHeartbeats 4000000 in
theorem bcells_yes (W H : Int) (s : Nat) (w : World) (hs : isSectorB W H s = true) :
    Calls Tryz.prog 79 #[.int .i64 W, .int .i64 H, .int .i64 s] w fun e w' => (∃ v, e = .returned v ∧ w'.ownsRow w.heap.size 3 1 v (cellsL W H s).length (flatN (cellsL W H s))) ∧ Gr w w' := by
  obtain ⟨i0, hi, hz0, hz1, hz2⟩ := info_parts info_int
  have E : Hid (cellsL W H s = cellsK W H s (tnF W H s)) := hide (by unfold cellsL; rw [if_pos hs, Int.toNat_natCast])
  rw [E.out]
  obtain ⟨t1, t2, t3⟩ := tnF_eq hs
  have HS := hide (fun u => size_yes W H s u hs)
  have HG := hide (fun (k : Nat) (hk : k < tnF W H s) u => global_yes W H s k u hs (by omega) (by omega))
  have HE := hide (fun (k : Nat) (hk : k < tnF W H s) => (gcF_eq hs hk).1)
  clear E
  generalize tnF W H s = T at *
  generalize twF W s = tw at *
  generalize thF W H s = th at *
  have b1 : 0 ≤ tw * th := by omega
  have b2 : tw * th ≤ 256 := by omega
  have HT := hide t1
  clear t1 hs
  go_enter Tryz.func79, Tryz.ntmps79
  go_wp2_with (go_at_call 81; refine (HS.out _).mono ?_; rintro e w' ⟨rfl, hd⟩)
  rw [← HT.out]
  clear b1 b2
  go_loopw [9, 22] (fun v i u => ∃ k : Nat, k ≤ T ∧ i = .int .i64 k ∧ u.ownsRow w.heap.size 3 1 v (cellsK W H s k).length (flatN (cellsK W H s k)) ∧ Gr w u) (fun _ i _ => T - (intOf i).toNat)
  case atStart => exact ⟨0, Nat.zero_le _, rfl, ints_nil _ _, (by repeat (first | exact Gr.refl _ | assumption | exact Dr.gr (by assumption) | refine Gr.alloc ?_ _ | refine Gr.drewN ?_ _ | refine Gr.drew ?_ | refine Gr.trans ?_ (by assumption) | refine Gr.trans ?_ (Dr.gr (by assumption))))⟩
  case round =>
    obtain ⟨k, hk, rfl, hown, hgr⟩ := hrel
    by_cases hlt : k < T
    · have hkI : (k : Int) < (T : Int) := by omega
      have HO := hide hown
      have HR := hide hgr
      have cl := cellsK_len W H s k
      obtain ⟨g, hg⟩ : ∃ g, gcF W s k = g := ⟨_, rfl⟩
      have HE2 : Hid (globalF W s k = (g : Int)) := hide (by rw [← hg]; exact (HE.out k hlt).symm)
      cases hb : brdB W H (g : Int)
      · have HC : Hid (cellsK W H s (k + 1) = cellsK W H s k) := hide (cellsK_no (by rw [hg]; exact hb))
        clear hown hgr hg
        go_wp2_with (first | (go_at_call 82; refine (HG.out k hlt _).mono ?_; rintro e w1 ⟨rfl, hd1⟩; rw [HE2.out]) | (go_at_call 89; refine (isBorder_any _ _ _ _).mono ?_; rintro e w2 ⟨rfl, hd2⟩; rw [hb]))
        go_roundw
        case rel => exact ⟨k + 1, by omega, by go_num, by rw [HC.out]; exact own_grI HO.out (hd1.gr.trans hd2.gr), HR.out.trans (hd1.gr.trans hd2.gr)⟩
        case measure => simp [intOf]; omega
      · have HC : Hid (cellsK W H s (k + 1) = cellsK W H s k ++ [g]) := hide (by rw [← hg]; exact cellsK_yes (by rw [hg]; exact hb))
        clear hown hgr hg
        go_wp2_with (first | (go_at_call 82; refine (HG.out k hlt _).mono ?_; rintro e w1 ⟨rfl, hd1⟩; rw [HE2.out]) | (go_at_call 89; refine (isBorder_any _ _ _ _).mono ?_; rintro e w2 ⟨rfl, hd2⟩; rw [hb]; have HO2 := hide (own_grI HO.out (hd1.gr.trans hd2.gr)); have HR2 := hide (HR.out.trans (hd1.gr.trans hd2.gr))) | (at_builtin; refine wpList_append_own _ rfl _ _ 31 rfl w.heap.size 3 i0 (.int .i64 0) 1 8 Tryz.underlying31 hi hz0 hz1 hz2 rfl (by decide) _ _ _ rfl (own_grI HO2.out ((Gr.refl _).alloc _)) ⟨w2.heap.size, 0, none⟩ 1 1 [.int .i64 g] rfl rfl (alloc_one _ _ _) (by simp [Value.oneCell']) (by unfold maxLen; omega) (by omega) (by have := HR2.out.size; simp only [World.size_alloc]; omega) ?_; intro v' w3 hown' hgrow hnil))
        go_roundw
        case rel => exact ⟨k + 1, by omega, by go_num, by rw [HC.out, List.length_append, flatN_app]; exact hown', Gr.grown (HR2.out.alloc _) hgrow (fun q e => (HO2.out.lt q e).1)⟩
        case measure => simp [intOf]; omega
    · have hkn : k = T := by omega
      subst hkn
      go_wp2
      go_ret
      exact ⟨⟨_, rfl, hown⟩, hgr⟩

theorem bcells_any (W H s : Int) (w : World) :
    Calls Tryz.prog 79 #[.int .i64 W, .int .i64 H, .int .i64 s] w fun e w' => (∃ v, e = .returned v ∧ w'.ownsRow w.heap.size 3 1 v (cellsL W H s).length (flatN (cellsL W H s))) ∧ Gr w w' := by
  cases hs : isSectorB W H s
  · exact bcells_no W H s w hs
  · obtain ⟨z, rfl⟩ : ∃ z : Nat, s = z := ⟨s.toNat, by have := ((isSectorB_iff _ _ _).1 hs).2.1; omega⟩
    exact bcells_yes W H z w hs

/-- some of the first k -/
def someK (p : Nat → Bool) (L : List Nat) (k : Nat) : List Nat := (L.take k).filter p
theorem someK_yes {p : Nat → Bool} {L : List Nat} {k : Nat} (hk : k < L.length) (h : p (L.getD k 0) = true) : someK p L (k + 1) = someK p L k ++ [L.getD k 0] := by
  have e : L[k]? = some (L.getD k 0) := by simp [hk]
  unfold someK
  rw [List.take_add_one, e, List.filter_append]
  generalize L.getD k 0 = x at *
  simp [h]
theorem someK_no {p : Nat → Bool} {L : List Nat} {k : Nat} (hk : k < L.length) (h : p (L.getD k 0) = false) : someK p L (k + 1) = someK p L k := by
  have e : L[k]? = some (L.getD k 0) := by simp [hk]
  unfold someK
  rw [List.take_add_one, e, List.filter_append]
  generalize L.getD k 0 = x at *
  simp [h]
theorem someK_len (p : Nat → Bool) (L : List Nat) (k : Nat) : (someK p L k).length ≤ k := by
  have := List.length_filter_le p (L.take k)
  unfold someK
  rw [List.length_take] at this
  omega
theorem nodesL_some (W H : Int) (N : Nat) (f : Nat → Int) (s : Int) : nodesL W H N f s = someK (fun (c : Nat) => opB N f (c : Int)) (cellsL W H s) (cellsL W H s).length := by
  unfold nodesL someK
  rw [List.take_length]

set_option maxHeartbeats 4000000 in
theorem bnodes_any {w : World} {p c v : Nat} {W H : Int} {N cc : Nat} {f : Nat → Int} {ep : Int} {ver : Nat → Int} (h : Gd w p c v W H N cc f ep ver) (s : Int) :
    Calls Tryz.prog 63 #[.pointer (some ⟨p, 0, none⟩), .int .i64 s] w fun e w' => (∃ v, e = .returned v ∧ w'.ownsRow w.heap.size 3 1 v (nodesL W H N f s).length (flatN (nodesL W H N f s))) ∧ Gr w w' := by
  obtain ⟨i0, hi, hz0, hz1, hz2⟩ := info_parts info_int
  have HG := hide h
  have HN := hide (nodesL_some W H N f s)
  have hL := cellsL_len W H s
  have HC := hide (fun u => bcells_any W H s u)
  rw [HN.out]
  clear h HN
  generalize cellsL W H s = L at *
  obtain ⟨n, hn⟩ : ∃ n, L.length = n := ⟨_, rfl⟩
  rw [hn] at hL ⊢
  have HL := hide hn
  go_enter Tryz.func63, Tryz.ntmps63
  go_wp2_with (first | (go_at_call 36; refine (gsize_any HG.out).mono ?_; rintro e w1 ⟨rfl, hg1⟩) | (go_at_call 79; refine (HC.out _).mono ?_; rintro e w2 ⟨⟨v2, rfl, hown2⟩, hg2⟩; obtain ⟨al, cl, rfl, hil⟩ := IlS.slot (w := w2) hown2; rw [hn] at hil; rw [hn]; have HI := hide hil; clear hil hown2 hn))
  have HR0 := hide (hg1.trans hg2)
  have HG2 := hide (HG.out.gr (hg1.trans hg2))
  go_loopw [7, 20] (fun v i u => ∃ k : Nat, k ≤ n ∧ i = .int .i64 k ∧ u.ownsRow w2.heap.size 3 1 v (someK (fun (c : Nat) => opB N f (c : Int)) L k).length (flatN (someK (fun (c : Nat) => opB N f (c : Int)) L k)) ∧ Gr w2 u) (fun _ i _ => n - (intOf i).toNat)
  case atStart => exact ⟨0, Nat.zero_le _, rfl, ints_nil _ _, Gr.refl _⟩
  case round =>
    obtain ⟨k, hk, rfl, hown, hgr⟩ := hrel
    by_cases hlt : k < n
    · have hkI : (k : Int) < (n : Int) := by omega
      have hk0 : 0 ≤ (k : Int) := by omega
      have HO := hide hown
      have HR := hide hgr
      have cl := someK_len (fun (c : Nat) => opB N f (c : Int)) L k
      obtain ⟨b, o, rfl, hB, hc⟩ := HI.out.at (by omega)
      have ck := cell_gr (hc k hlt) hgr
      have kl : k < L.length := by rw [HL.out]; exact hlt
      obtain ⟨g, hg⟩ : ∃ g, L.getD k 0 = g := ⟨_, rfl⟩
      rw [hg] at ck
      have HGr := hide (HG2.out.gr hgr)
      cases hb : opB N f (g : Int)
      · have HE : Hid (someK (fun (c : Nat) => opB N f (c : Int)) L (k + 1) = someK (fun (c : Nat) => opB N f (c : Int)) L k) := hide (someK_no kl (by rw [hg]; exact hb))
        clear hown hgr hg hc kl
        go_wp2_with (go_at_call 80; refine (bisOpen_any HGr.out _).mono ?_; rintro e w3 ⟨rfl, hd3⟩; rw [hb])
        go_roundw
        case rel => exact ⟨k + 1, by omega, by go_num, by rw [HE.out]; exact own_grI HO.out hd3.gr, HR.out.trans hd3.gr⟩
        case measure => simp [intOf]; omega
      · have HE : Hid (someK (fun (c : Nat) => opB N f (c : Int)) L (k + 1) = someK (fun (c : Nat) => opB N f (c : Int)) L k ++ [g]) := hide (by rw [← hg]; exact someK_yes kl (by rw [hg]; exact hb))
        clear hown hgr hg hc kl
        go_wp2_with (first | (go_at_call 80; refine (bisOpen_any HGr.out _).mono ?_; rintro e w3 ⟨rfl, hd3⟩; rw [hb]; have HO2 := hide (own_grI HO.out hd3.gr); have HR2 := hide (HR.out.trans hd3.gr)) | (at_builtin; refine wpList_append_own _ rfl _ _ 31 rfl w2.heap.size 3 i0 (.int .i64 0) 1 8 Tryz.underlying31 hi hz0 hz1 hz2 rfl (by decide) _ _ _ rfl (own_grI HO2.out ((Gr.refl _).alloc _)) ⟨w3.heap.size, 0, none⟩ 1 1 [.int .i64 g] rfl rfl (alloc_one _ _ _) (by simp [Value.oneCell']) (by unfold maxLen; omega) (by omega) (by have := HR2.out.size; simp only [World.size_alloc]; omega) ?_; intro v' w4 hown' hgrow hnil))
        go_roundw
        case rel => exact ⟨k + 1, by omega, by go_num, by rw [HE.out, List.length_append, flatN_app]; exact hown', Gr.grown (HR2.out.alloc _) hgrow (fun q e => (HO2.out.lt q e).1)⟩
        case measure => simp [intOf]; omega
    · have hkn : k = n := by omega
      subst hkn
      go_wp2
      go_ret
      exact ⟨⟨_, rfl, own_baseI hown HR0.out.size⟩, HR0.out.trans hgr⟩
end Go.Proofs.YtgbadbkipaccgaaGreat
