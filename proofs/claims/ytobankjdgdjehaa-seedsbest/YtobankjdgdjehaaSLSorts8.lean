/- SeedsSorts' walk: it answers true at every input; nothing that was there is written. -/
import Derived.Test.YtobankjdgdjehaaSRef8
import Derived.Test.YtobankjdgdjehaaSLSame8
namespace Go.Proofs.Ytobankjdgdjehaa
open Go.RowKit
set_option maxRecDepth 20000

theorem plain_own {w : World} {base n c : Nat} {a : Option Addr} {xs : List Value} (h : w.ownsRow base 38 3 (.slice a n c) n xs) : a = none ∨ ∃ b o, a = some ⟨b, o, none⟩ := by
  rcases h.2 with ⟨e, _⟩ | ⟨g, cap, cur, e, _⟩
  · cases e; exact .inl rfl
  · cases e; exact .inr ⟨g, 0, rfl⟩
theorem sls_own {w : World} {base n c : Nat} {a : Option Addr} {L : List Sd} (h : w.ownsRow base 38 3 (.slice a n c) n (flatS L)) (hl : L.length = n) : SlS w a n c L := by
  obtain ⟨_, _, e, s⟩ := SlS.of_own h hl
  cases e
  exact s

set_option maxHeartbeats 4000000 in
theorem seedsSorts_any (a : Option Addr) (n c : Nat) (L : List Sd) (tw : Int) (w : World) (h : SlS w a n c L) :
    Calls Try.prog 4 #[.slice a n c, .int .i64 tw] w fun e w' => e = .returned (.bool true) ∧ Gr w w' := by
  go_enter Try.func4, Try.ntmps4
  go_wp2_with fail
  refine (few_l a n c L w h).mono ?_
  rintro e w1 ⟨⟨a1, c1, n1, rfl, q1, k1, hown1, s1⟩, hg1⟩
  clear s1 h
  go_wp2_with fail
  go_loopw [5, 6] (fun v i u => ∃ (k m c1 : Nat) (a1 : Option Addr) (M : List Sd), k ≤ n1 ∧ m = n1 + k ∧ i = .int .i64 (2 * k : Nat) ∧ v = .slice a1 m c1 ∧ Hid (M.length = m) ∧ u.ownsRow w.heap.size 38 3 (.slice a1 m c1) m (flatS M) ∧ Gr w u) (fun _ i _ => 200 - (intOf i).toNat)
  case atStart => exact ⟨0, n1, c1, a1, _, Nat.zero_le _, rfl, rfl, rfl, k1, hown1, hg1⟩
  case round =>
    clear hown1 k1 hg1
    obtain ⟨k, m, c1, a1, M, hk, hm, rfl, rfl, HM, hown, hg⟩ := hrel
    have hm' : m ≤ 120 := by omega
    have hkm : n1 + k = m := hm.symm
    clear hm
    generalize wr = w1 at *
    obtain ⟨r, hr⟩ : ∃ r, (bits BinOp.and IntKind.i64 tw 1 == 1) = r := ⟨_, rfl⟩
    go_upto_region 3 with fail
    go_cut [19] from 11 to 30 (fun s u => s = .bool (decide (2 * k < m) && r) ∧ u = w1)
    case first =>
      by_cases hlt : 2 * k < m
      · have hlt2 : ((2 * k : Nat) : Int) < (m : Int) := by omega
        clear hkm
        go_wp2_with fail
        go_meet
        exact ⟨by simp [hlt], rfl⟩
      · have hlt2 : ¬ ((2 * k : Nat) : Int) < (m : Int) := by omega
        clear hkm
        go_wp2_with fail
        go_meet
        exact ⟨by simp [hlt], rfl⟩
    case rest =>
      obtain ⟨rfl, hwc⟩ := hcut
      subst hwc
      clear hr
      have sM := sls_own hown HM.out
      obtain ⟨I, hI⟩ : ∃ I, I = 2 * k := ⟨_, rfl⟩
      rw [← hI]
      by_cases hdo : 2 * k < m ∧ r = true
      · have hv : (decide (2 * k < m) && r) = true := by simp [hdo.1, hdo.2]
        rw [hI, hv, ← hI]
        obtain ⟨B, o, rfl, hB, hc⟩ := sM.at (by omega)
        obtain ⟨x1, x2, x3⟩ := hc I (by omega)
        obtain ⟨x, hx⟩ : ∃ x : Sd, x = el M I := ⟨_, rfl⟩
        rw [← hx] at x1 x2 x3
        have HKM := hide hkm
        have HI := hide hI
        have hIm : I < m := by omega
        have hIm2 : (I : Int) < (m : Int) := by omega
        have hk1 : k + 1 ≤ n1 := by omega
        clear hc hx hdo hv hkm hI
        go_wp2_with (at_builtin; refine wpList_seeds rfl (.tmp 22) (.tmp 27) rfl w.heap.size _ m (flatS M) rfl (hown.alloc _) _ 1 1 [x] rfl (seeds_one _ x) (by omega) (N := m + 1) rfl (Nat.le_trans hg.size (by simp)) ?_; intro a7 c7 w7 hown7 hgrow7)
        go_roundw
        case rel =>
          refine ⟨k + 1, m + 1, c7, a7, M ++ [x], hk1, by rw [← HKM.out]; omega, ?_, rfl, (show Hid _ by show (M ++ [x]).length = m + 1; rw [List.length_append, HM.out]; rfl), by rw [flatS_app]; exact hown7, (hg.alloc _).grown hgrow7 (fun b e => (hown.lt b e).1)⟩
          have := HI.out
          refine congrArg _ ?_
          omega
        case measure => have h1 := HI.out; have h2 := hIm; simp [intOf]; omega
      · have hv : (decide (2 * k < m) && r) = false := by
          cases r with
          | false => simp
          | true =>
            have hno : ¬ 2 * k < m := fun e => hdo ⟨e, rfl⟩
            simp [hno]
        rw [hI, hv, ← hI]
        have h0m : 0 + m = m := Nat.zero_add m
        clear hdo hv hkm hI
        go_wp2_with (at_builtin; refine wpList_seeds rfl (.tmp 31) (.tmp 32) rfl wc.heap.size _ 0 [] rfl (seeds_empty wc) a1 m c1 M rfl (sM.gr ((Gr.refl _).alloc _)) (by omega) h0m (by simp) ?_; intro a8 c8 w8 hown8 hgrow8)
        have hg8 : Gr wc w8 := ((Gr.refl wc).alloc _).grown hgrow8 (fun b e => by cases e; exact Nat.le_refl _)
        have s8 : SlS w8 a8 m c8 M := sls_own (by simpa using hown8) HM.out
        have ha := plain_own hown
        replace sM := sM.gr hg8
        have hgr := hg.trans hg8
        clear hown hown8 hgrow8 hg hg8 HM
        refine (sort_any a1 m c1 M w8 sM ha (by omega)).mono ?_
        rintro e w9 ⟨⟨a9, c9, m9, hm9, rfl, hown9⟩, hg9⟩
        have s9 := sls_own hown9 hm9.symm
        clear hm9 hown9
        replace sM := sM.gr hg9
        replace s8 := s8.gr hg9
        replace hgr := hgr.trans hg9
        clear hg9
        go_wp2_with fail
        refine (told8_any _).mono ?_
        rintro e u1 ⟨rfl, hg1⟩
        replace sM := sM.gr hg1
        replace s8 := s8.gr hg1
        replace s9 := s9.gr hg1
        replace hgr := hgr.trans hg1
        clear hg1
        go_wp2_with fail
        refine (sortSeeds_any a1 m c1 M u1 sM (by omega)).mono ?_
        rintro e u2 ⟨⟨a3, c3, m3, rfl, hm3, hown3⟩, hg2⟩
        have s3 := sls_own hown3 hm3.out.symm
        clear hown3
        replace sM := sM.gr hg2
        replace s8 := s8.gr hg2
        replace s9 := s9.gr hg2
        replace hgr := hgr.trans hg2
        clear hg2
        go_wp2_with fail
        refine (rsame_any _ _ _ _ _ _ _ _ _ s9 s3).mono ?_
        rintro e u3 ⟨rfl, hg3⟩
        rw [decide_eq_true (show srt M = srt M from rfl)]
        replace sM := sM.gr hg3
        replace s8 := s8.gr hg3
        replace hgr := hgr.trans hg3
        clear hg3
        go_wp2_with fail
        refine (rsame_any _ _ _ _ _ _ _ _ _ sM s8).mono ?_
        rintro e u4 ⟨rfl, hg4⟩
        rw [decide_eq_true (show M = M from rfl)]
        replace hgr := hgr.trans hg4
        go_wp2_with fail
        go_ret
        exact ⟨rfl, hgr⟩

end Go.Proofs.Ytobankjdgdjehaa
