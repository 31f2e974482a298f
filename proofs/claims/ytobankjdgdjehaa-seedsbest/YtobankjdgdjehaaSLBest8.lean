/- SeedsBest's walk: it answers true at every input; nothing that was there is written. -/
import Derived.Test.YtobankjdgdjehaaSLSorts8
namespace Go.Proofs.Ytobankjdgdjehaa
open Go.RowKit
set_option maxRecDepth 20000

set_option maxHeartbeats 4000000 in
theorem seedsBest_any (a : Option Addr) (n c : Nat) (L : List Sd) (b : Option Addr) (m d : Nat) (M : List Sd) (cl0 sd0 : Int) (w : World) (h : SlS w a n c L) (g : SlS w b m d M) :
    Calls Try.prog 7 #[.slice a n c, .slice b m d, .int .i64 cl0, .int .i64 sd0] w fun e w' => e = .returned (.bool true) ∧ Gr w w' := by
  go_enter Try.func7, Try.ntmps7
  go_wp2_with fail
  refine (few_l a n c L w h).mono ?_
  rintro e w1 ⟨⟨a1, c1, n1, rfl, q1, k1, hown1, s1⟩, hg1⟩
  go_wp2_with fail
  refine (few_l b m d M w1 (g.gr hg1)).mono ?_
  rintro e w2 ⟨⟨a2, c2, n2, rfl, q2, k2, hown2, s2⟩, hg2⟩
  replace s1 := s1.gr hg2
  have hgr := hg1.trans hg2
  generalize L.take 60 = L1 at *
  generalize M.take 60 = M1 at *
  clear hown1 hown2 hg1 hg2 h g
  obtain ⟨r, hr⟩ : ∃ r, (bits BinOp.and IntKind.i64 cl0 1 == 0) = r := ⟨_, rfl⟩
  go_upto_region 2 with fail
  go_cut [26] from 19 (fun s u => ∃ q : Bool, s = .bool q ∧ (q = true → 0 < n1) ∧ u = w2)
  case first =>
    by_cases h0 : 0 < n1
    · have h1 : (0 : Int) < (n1 : Int) := by omega
      go_wp2_with fail
      go_meet
      exact ⟨r, rfl, fun _ => h0, rfl⟩
    · have h1 : ¬ (0 : Int) < (n1 : Int) := by omega
      go_wp2_with fail
      go_meet
      exact ⟨false, rfl, (fun e => by cases e), rfl⟩
  case rest =>
    obtain ⟨q, rfl, hq, hwc⟩ := hcut
    subst hwc
    clear hr
    go_upto_if 26 with fail
    go_cut [2, 3] from 27 (fun s t u => ∃ C S : Int, s = .int .i64 C ∧ t = .int .i64 S ∧ Dr wc u)
    case first =>
      cases q with
      | true =>
        have hn1 := hq rfl
        obtain ⟨B, o, rfl, hB, hc⟩ := s1.at hn1
        obtain ⟨x1, x2, -⟩ := hc 0 hn1
        rw [Nat.zero_mul, Nat.add_zero] at x1 x2
        clear hc hq
        go_wp2_with fail
        go_quiet (fail)
        go_wp2_with fail
        go_meet
        exact ⟨_, _, rfl, rfl, _, rfl⟩
      | false =>
        go_wp2_with fail
        go_meet
        exact ⟨_, _, rfl, rfl, Dr.refl _⟩
    case rest =>
      obtain ⟨C, S, rfl, rfl, hdr⟩ := hcut
      replace s1 := s1.gr hdr.gr
      replace s2 := s2.gr hdr.gr
      replace hgr := hgr.trans hdr.gr
      clear hdr hq
      generalize wc = w3 at *
      have h01 : 0 + n1 = n1 := Nat.zero_add n1
      obtain ⟨N, hN⟩ : ∃ N, n1 + n2 = N := ⟨_, rfl⟩
      have hN2 : N ≤ 120 := by omega
      have HN := hide hN
      go_wp2_with (at_builtin; first | (refine wpList_seeds rfl (.tmp 35) (.tmp 36) rfl w3.heap.size _ 0 [] rfl (seeds_empty w3) a1 n1 c1 L1 rfl (s1.gr ((Gr.refl _).alloc _)) (by omega) h01 (by simp) ?_; intro a4 c4 w4 hown4 hgrow4; have hg4 : Gr w3 w4 := ((Gr.refl w3).alloc _).grown hgrow4 (fun b e => by cases e; exact Nat.le_refl _)) | (refine wpList_seeds rfl (.tmp 37) (.tmp 38) rfl w3.heap.size _ n1 _ rfl hown4 a2 n2 c2 M1 rfl (s2.gr hg4) (by omega) hN (Gr.size hg4) ?_; intro a5 c5 w5 hown5 hgrow5; have hg5 : Gr w3 w5 := hg4.grown hgrow5 (fun b e => (hown4.lt b e).1)))
      have hT : ([] ++ flatS L1 ++ flatS M1) = flatS (L1 ++ M1) := by simp [flatS]
      rw [hT] at hown5
      have HTL : Hid ((L1 ++ M1).length = N) := by
        show (L1 ++ M1).length = N
        rw [List.length_append, k1.out, k2.out, HN.out]
      generalize L1 ++ M1 = T at *
      have hpl := plain_own hown5
      have sT := sls_own hown5 HTL.out
      have H := hide sT
      have hgr5 := hgr.trans hg5
      clear hN hT hown4 hown5 hgrow4 hgrow5 hg4 hg5 s1 s2 k1 k2 hgr h01
      go_loopw [12, 13, 14] (fun b f i u => ∃ (s : Nat), s ≤ N ∧ i = .int .i64 s ∧ b = .int .i64 (bst INF C S (T.take s)).1 ∧ f = .bool (bst INF C S (T.take s)).2 ∧ Gr w5 u) (fun _ _ i _ => N - (intOf i).toNat)
      case atStart => exact ⟨0, by omega, rfl, rfl, rfl, Gr.refl _⟩
      case round =>
        obtain ⟨s, hs, rfl, rfl, rfl, hgu⟩ := hrel
        by_cases hsn : s < N
        · have hsn2 : (s : Int) < (N : Int) := by omega
          obtain ⟨B, o, rfl, hB, hc⟩ := H.out.at (by omega)
          obtain ⟨x1, x2, x3⟩ := hc s hsn
          replace x1 := cell_gr x1 hgu
          replace x2 := cell_gr x2 hgu
          replace x3 := cell_gr x3 hgu
          have HX := hide (bst_next (inf := INF) (c := C) (s := S) (L := T) (k := s) (by rw [HTL.out]; exact hsn))
          clear hc sT
          obtain ⟨⟨q1, q2, q3⟩, hq⟩ : ∃ q : Sd, q = el T s := ⟨_, rfl⟩
          rw [← hq] at x1 x2 x3 HX
          obtain ⟨⟨bv, bf⟩, hr⟩ : ∃ r : Int × Bool, r = bst INF C S (T.take s) := ⟨_, rfl⟩
          rw [← hr] at HX ⊢
          clear hq hr
          simp only at x1 x2 x3
          by_cases h1 : q1 = C
          · have e1 : (q1 == C) = true := by simp [h1]
            by_cases h2 : q2 = S
            · have e2 : (q2 == S) = true := by simp [h2]
              cases bf with
              | false =>
                rw [bstep_yes ⟨h1, h2, .inl rfl⟩] at HX
                clear h1 h2
                go_wp2_with fail
                go_roundw
                case rel => exact ⟨s + 1, hsn, by go_num, by rw [HX.out], by rw [HX.out], hgu⟩
                case measure => simp [intOf]; omega
              | true =>
                by_cases h3 : q3 < bv
                · rw [bstep_yes ⟨h1, h2, .inr h3⟩] at HX
                  clear h1 h2
                  go_wp2_with fail
                  go_roundw
                  case rel => exact ⟨s + 1, hsn, by go_num, by rw [HX.out], by rw [HX.out], hgu⟩
                  case measure => simp [intOf]; omega
                · rw [bstep_no (fun k => k.2.2.elim (fun e => by cases e) h3)] at HX
                  clear h1 h2
                  go_wp2_with fail
                  go_roundw
                  case rel => exact ⟨s + 1, hsn, by go_num, by rw [HX.out], by rw [HX.out], hgu⟩
                  case measure => simp [intOf]; omega
            · have e2 : (q2 == S) = false := by simp [h2]
              rw [bstep_no (fun k => h2 k.2.1)] at HX
              clear h1 h2
              go_wp2_with fail
              go_roundw
              case rel => exact ⟨s + 1, hsn, by go_num, by rw [HX.out], by rw [HX.out], hgu⟩
              case measure => simp [intOf]; omega
          · have e1 : (q1 == C) = false := by simp [h1]
            rw [bstep_no (fun k => h1 k.1)] at HX
            clear h1
            go_wp2_with fail
            go_roundw
            case rel => exact ⟨s + 1, hsn, by go_num, by rw [HX.out], by rw [HX.out], hgu⟩
            case measure => simp [intOf]; omega
        · have : s = N := by omega
          subst this
          have hT := (show T.take s = T from List.take_of_length_le (by rw [HTL.out]; exact Nat.le_refl _))
          rw [hT]
          replace sT := sT.gr hgu
          replace hgr5 := hgr5.trans hgu
          clear hT hgu hsn hs
          generalize wr = u1 at *
          go_wp2_with fail
          refine (told8_any _).mono ?_
          rintro e u2 ⟨rfl, hg2⟩
          replace sT := sT.gr hg2
          replace hgr5 := hgr5.trans hg2
          clear hg2
          go_wp2_with fail
          refine (best_any _ _ _ T C S _ sT).mono ?_
          rintro e u3 ⟨rfl, hg3⟩
          replace sT := sT.gr hg3
          replace hgr5 := hgr5.trans hg3
          clear hg3
          go_wp2_with fail
          refine (sort_any _ _ _ T _ sT hpl (by omega)).mono ?_
          rintro e u4 ⟨⟨a9, c9, m9, hm9, rfl, hown9⟩, hg4⟩
          have s9 := sls_own hown9 hm9.symm
          clear hm9 hown9
          replace hgr5 := hgr5.trans hg4
          clear hg4
          go_wp2_with fail
          refine (best_any _ _ _ (srt T) C S _ s9).mono ?_
          rintro e u5 ⟨rfl, hg5⟩
          rw [bst_srt]
          replace hgr5 := hgr5.trans hg5
          go_wp2_with fail
          go_ret
          exact ⟨rfl, hgr5⟩

end Go.Proofs.Ytobankjdgdjehaa
