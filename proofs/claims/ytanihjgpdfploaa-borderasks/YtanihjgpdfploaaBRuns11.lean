/- What border's Runs makes: a row of its own; nothing that was there is written. -/
import Derived.Test.YtanihjgpdfploaaBCross11
import Derived.Deep.AppendLies
namespace Go.Proofs.Ytanihjgpdfploaa
open Go.RowKit
set_option maxRecDepth 20000

theorem info_run : (Try.prog.info? 53).map (fun i => (i.zero, i.size, i.bytes)) = some (some (.agg #[.int .i64 0, .int .i64 0]), 2, 16) := by kernel_rfl
theorem runsL_at {W H : Int} {N : Nat} {f : Nat → Int} {s side : Nat} (hs : isSectorB W H s = true) (h3 : side ≤ 3) : runsL W H N f s side = runsK (plcB W H N f s side) (longF W H s side) := by
  unfold runsL
  rw [if_pos ⟨hs, by omega, by omega⟩, Int.toNat_natCast, Int.toNat_natCast]
theorem runsL_no {W H : Int} {N : Nat} {f : Nat → Int} {s side : Int} (h : isSectorB W H s = false ∨ side < 0 ∨ 3 < side) : runsL W H N f s side = [] := by
  unfold runsL
  rw [if_neg]
  rintro ⟨a, b, c⟩
  rcases h with h | h
  · rw [a] at h; cases h
  · omega
/-- the last run made longer, in its own row -/
theorem runs_store {w : World} {base g cap n : Nat} {e : TypeId} {M : List (Int × Int)} {x y : Int} (z : Int) (hn : M.length = n) (h : w.ownsRow base e 2 (.slice (some ⟨g, 0, none⟩) (n + 1) cap) (n + 1) (flatP (M ++ [(x, y)]))) :
    (w.setCell ⟨g, n * 2 + 1, none⟩ (.int .i64 z)).ownsRow base e 2 (.slice (some ⟨g, 0, none⟩) (n + 1) cap) (n + 1) (flatP (M ++ [(x, z)])) ∧ w.cell? ⟨g, n * 2 + 1, none⟩ = some (.int .i64 y) ∧ w.frozen? ⟨g, n * 2 + 1, none⟩ = false := by
  subst hn
  refine ⟨?_, ?_, h.frozenAt _⟩
  · rw [← flatP_last M x y z]
    exact (h.stored _ _).1
  · rw [h.cellAt _ (by omega), flatP_app, flatP_one, List.getElem?_append_right (by rw [flatP_len]; omega), flatP_len, show M.length * 2 + 1 - M.length * 2 = 1 by omega]
    rfl

set_option maxHeartbeats 4000000 in
theorem bruns_no {w : World} {p c v : Nat} {W H : Int} {N cc : Nat} {f : Nat → Int} {ep : Int} {ver : Nat → Int} (h : Gd w p c v W H N cc f ep ver) (s side : Int) (hs : isSectorB W H s = false ∨ side < 0 ∨ 3 < side) :
    Calls Try.prog 21 #[.pointer (some ⟨p, 0, none⟩), .int .i64 s, .int .i64 side] w fun e w' => (∃ v, e = .returned v ∧ w'.ownsRow w.heap.size 53 2 v (runsL W H N f s side).length (flatP (runsL W H N f s side))) ∧ Gr w w' := by
  rw [runsL_no hs]
  have HG := hide h
  have HA := hide (fun u => along_no W H s side u hs)
  clear h hs
  go_enter Try.func21, Try.ntmps21
  go_wp2_with (first | (go_at_call 42; refine (gsize_any HG.out).mono ?_; rintro e w1 ⟨rfl, hg1⟩) | (go_at_call 44; refine (HA.out _).mono ?_; rintro e w2 ⟨⟨x, y, rfl⟩, hd2⟩))
  go_loopw [12, 13, 31] (fun v n i u => v = .slice none 0 0 ∧ n = .int .i64 0 ∧ i = .int .i64 0 ∧ Gr w u) (fun _ _ _ _ => 0)
  case atStart => exact ⟨rfl, rfl, rfl, hg1.trans hd2.gr⟩
  case round =>
    obtain ⟨rfl, rfl, rfl, hgr⟩ := hrel
    go_wp2
    go_ret
    exact ⟨⟨_, rfl, pairs_nil _ _ _⟩, hgr⟩

set_option maxHeartbeats 8000000 in
theorem bruns_yes {w : World} {p c v : Nat} {W H : Int} {N cc : Nat} {f : Nat → Int} {ep : Int} {ver : Nat → Int} (h : Gd w p c v W H N cc f ep ver) (s side : Nat) (hs : isSectorB W H s = true) (h3 : side ≤ 3) :
    Calls Try.prog 21 #[.pointer (some ⟨p, 0, none⟩), .int .i64 s, .int .i64 side] w fun e w' => (∃ v, e = .returned v ∧ w'.ownsRow w.heap.size 53 2 v (runsL W H N f s side).length (flatP (runsL W H N f s side))) ∧ Gr w w' := by
  obtain ⟨i0, hi, hz0, hz1, hz2⟩ := info_parts info_run
  rw [runsL_at hs h3]
  have HG := hide h
  have HA := hide (fun u => along_yes W H s side u hs (by omega) (by omega))
  obtain ⟨q1, q2, q3⟩ := loc_ok hs h3
  obtain ⟨q4, q5⟩ := fst_bd (side := side) hs
  have HP : Hid (∀ k, plcB W H N f s side k = (opB N f (gcF W s (locF W H s side k)) && opB N f (overF W H (gcF W s (locF W H s side k)) side))) := hide fun _ => rfl
  have HQ := hide (fun (k : Nat) (hk : k < longF W H s side) (u : World) => by
    have t := tnF_eq hs
    have a := (q3 k hk).1
    have r := global_yes W H s (locF W H s side k) u hs (by omega) (by omega)
    rw [← (gcF_eq hs a).1, (q3 k hk).2.1] at r
    exact r)
  have HB := hide (fun k hk => (q3 k hk).2.2)
  rw [q1] at HA
  clear q1 q3 h hs h3
  generalize plcB W H N f s side = o at *
  generalize longF W H s side = T at *
  generalize fstF W H s side = F0 at *
  generalize aptF W s side = A0 at *
  go_enter Try.func21, Try.ntmps21
  go_wp2_with (first | (go_at_call 42; refine (gsize_any HG.out).mono ?_; rintro e w1 ⟨rfl, hg1⟩) | (go_at_call 44; refine (HA.out _).mono ?_; rintro e w2 ⟨rfl, hd2⟩))
  have HR0 := hide (hg1.trans hd2.gr)
  have HG2 := hide (HG.out.gr (hg1.trans hd2.gr))
  go_loopw [12, 13, 31] (fun v n i u => ∃ k : Nat, k ≤ T ∧ i = .int .i64 k ∧ n = .int .i64 (curK o k : Nat) ∧ u.ownsRow w2.heap.size 53 2 v (runsK o k).length (flatP (runsK o k)) ∧ Gr w2 u) (fun _ _ i _ => T - (intOf i).toNat)
  case atStart => exact ⟨0, Nat.zero_le _, rfl, rfl, pairs_nil _ _ _, Gr.refl _⟩
  case round =>
    obtain ⟨k, hk, rfl, rfl, hown, hgr⟩ := hrel
    by_cases hlt : k < T
    · have hkI : (k : Int) < (T : Int) := by omega
      have HO := hide hown
      have HR := hide hgr
      have cl := runs_len o k
      have ck := cur_le o k
      obtain ⟨b1, b2⟩ := HB.out k hlt
      have HGr := hide (HG2.out.gr hgr)
      obtain ⟨g, hg⟩ : ∃ g, gcF W s (locF W H s side k) = g := ⟨_, rfl⟩
      have HC := hide (HQ.out k hlt)
      have HPk := hide (HP.out k)
      rw [hg] at HC HPk
      clear hown hgr hg
      cases ha : opB N f g
      · have ho : o k = false := by rw [HPk.out, ha, Bool.false_and]
        have H1 := hide (cur_no ho)
        have H2 := hide (runs_no ho)
        clear ho
        go_wp2_with (first | (go_at_call 38; refine (HC.out _).mono ?_; rintro e w3 ⟨rfl, hd3⟩) | (go_at_call 43; refine (isOpen_any (HGr.out.dr hd3) _).mono ?_; rintro e w4 ⟨rfl, hd4⟩; rw [ha]))
        go_roundw
        case rel => exact ⟨k + 1, by omega, by go_num, by rw [H1.out]; rfl, by rw [H2.out]; exact own_grP HO.out (hd3.gr.trans hd4.gr), HR.out.trans (hd3.gr.trans hd4.gr)⟩
        case measure => simp [intOf]; omega
      · cases hb : opB N f (overF W H g side)
        · have ho : o k = false := by rw [HPk.out, hb, Bool.and_false]
          have H1 := hide (cur_no ho)
          have H2 := hide (runs_no ho)
          clear ho
          go_wp2_with (first | (go_at_call 38; refine (HC.out _).mono ?_; rintro e w3 ⟨rfl, hd3⟩) | (go_at_call 45; refine (over_any _ _ _ _ _).mono ?_; rintro e w5 ⟨rfl, hd5⟩) | (go_at_call_of 43 g; refine (isOpen_any (HGr.out.dr hd3) _).mono ?_; rintro e w4 ⟨rfl, hd4⟩; rw [ha]) | (go_at_call 43; refine (isOpen_any (HGr.out.dr ((hd3.trans hd4).trans hd5)) _).mono ?_; rintro e w6 ⟨rfl, hd6⟩; rw [hb]))
          have hg6 := ((hd3.gr.trans hd4.gr).trans hd5.gr).trans hd6.gr
          go_roundw
          case rel => exact ⟨k + 1, by omega, by go_num, by rw [H1.out]; rfl, by rw [H2.out]; exact own_grP HO.out hg6, HR.out.trans hg6⟩
          case measure => simp [intOf]; omega
        · have ho : o k = true := by rw [HPk.out, ha, hb]; rfl
          obtain ⟨m, hm⟩ : ∃ m, curK o k = m := ⟨_, rfl⟩
          obtain ⟨M, hM⟩ : ∃ M, endK o k = M := ⟨_, rfl⟩
          have r1 := cur_yes ho
          have r2 := runs_yes ho
          have r3 := end_len o k
          rw [hm] at r1 r2 r3 ck ⊢
          rw [hM] at r2 r3
          have H1 := hide r1
          have H2 := hide r2
          clear r1 r2
          by_cases hm0 : m = 0
          · have hR := runs_new (hm.trans hm0)
            rw [hM] at hR
            rw [hR] at HO
            subst hm0
            clear ho hm hM hR
            rw [if_pos rfl] at r3
            rw [show ((0 : Nat) : Int) = 0 from rfl]
            obtain ⟨q, hq⟩ : ∃ q, M.length = q := ⟨_, rfl⟩
            have HQ := hide hq
            rw [hq] at r3 HO
            clear hq
            go_wp2_with (first | (go_at_call 38; refine (HC.out _).mono ?_; rintro e w3 ⟨rfl, hd3⟩) | (go_at_call 45; refine (over_any _ _ _ _ _).mono ?_; rintro e w5 ⟨rfl, hd5⟩) | (go_at_call_of 43 g; refine (isOpen_any (HGr.out.dr hd3) _).mono ?_; rintro e w4 ⟨rfl, hd4⟩; rw [ha]) | (go_at_call 43; refine (isOpen_any (HGr.out.dr ((hd3.trans hd4).trans hd5)) _).mono ?_; rintro e w6 ⟨rfl, hd6⟩; rw [hb]; have hg6 := ((hd3.gr.trans hd4.gr).trans hd5.gr).trans hd6.gr; have HO2 := hide (own_grP HO.out hg6); have HR2 := hide (HR.out.trans hg6)) | (at_builtin; refine wpList_append_own _ rfl _ _ 40 rfl w2.heap.size 53 i0 (.agg #[.int .i64 0, .int .i64 0]) 2 16 Try.underlying40 hi hz0 hz1 hz2 rfl (by decide) _ _ _ rfl (own_grP HO2.out ((Gr.refl _).alloc _)) ⟨w6.heap.size, 0, none⟩ 1 1 [.int .i64 k, .int .i64 0] rfl rfl (alloc_two _ _ _ _) (by simp [Value.oneCell']) (by unfold maxLen; omega) (by omega) (by have := HR2.out.size; simp only [World.size_alloc]; omega) ?_; intro v' w7 hown' hgrow hnil; obtain ⟨gg, gc, rfl, g1, g2⟩ := World.ownsRow.form hown' (by omega); have HR3 := hide (Gr.grown (HR2.out.alloc _) hgrow (fun q e => (HO2.out.lt q e).1)); obtain ⟨st1, st2, st3⟩ := runs_store (x := k) (y := 0) 1 HQ.out (by rw [flatP_app]; exact hown'); have HST := hide st1; clear hown' hgrow hnil st1))
            go_roundw
            case rel => exact ⟨k + 1, by omega, by go_num, by rw [H1.out]; rfl, by rw [H2.out, List.length_append, HQ.out]; simpa using HST.out, HR3.out.set (p := ⟨gg, q * 2 + 1, none⟩) g1 _⟩
            case measure => simp [intOf]; omega
          · have hR := runs_go (o := o) (k := k) (by omega)
            rw [hM, hm] at hR
            rw [hR, List.length_append, List.length_singleton] at HO
            clear ho hm hM hR
            rw [if_neg hm0] at r3
            obtain ⟨q, hq⟩ : ∃ q, M.length = q := ⟨_, rfl⟩
            have HQ := hide hq
            rw [hq] at r3 HO
            clear hq
            obtain ⟨gg, gc, rfl, g1, g2⟩ := World.ownsRow.form HO.out (by omega)
            go_wp2_with (first | (go_at_call 38; refine (HC.out _).mono ?_; rintro e w3 ⟨rfl, hd3⟩) | (go_at_call 45; refine (over_any _ _ _ _ _).mono ?_; rintro e w5 ⟨rfl, hd5⟩) | (go_at_call_of 43 g; refine (isOpen_any (HGr.out.dr hd3) _).mono ?_; rintro e w4 ⟨rfl, hd4⟩; rw [ha]) | (go_at_call 43; refine (isOpen_any (HGr.out.dr ((hd3.trans hd4).trans hd5)) _).mono ?_; rintro e w6 ⟨rfl, hd6⟩; rw [hb]; have hg6 := ((hd3.gr.trans hd4.gr).trans hd5.gr).trans hd6.gr; have HR2 := hide (HR.out.trans hg6); obtain ⟨st1, st2, st3⟩ := runs_store ((m : Int) + 1) HQ.out (own_grP HO.out hg6); have HST := hide st1; clear st1))
            go_roundw
            case rel => exact ⟨k + 1, by omega, by go_num, by rw [H1.out]; rfl, by rw [H2.out, List.length_append, HQ.out]; exact HST.out, HR2.out.set (p := ⟨gg, q * 2 + 1, none⟩) g1 _⟩
            case measure => simp [intOf]; omega
    · have hkn : k = T := by omega
      subst hkn
      go_wp2
      go_ret
      exact ⟨⟨_, rfl, ownP_base hown HR0.out.size⟩, HR0.out.trans hgr⟩
end Go.Proofs.Ytanihjgpdfploaa
