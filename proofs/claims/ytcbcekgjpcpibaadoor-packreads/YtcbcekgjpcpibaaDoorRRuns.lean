/- What the document answers of form 2. -/
import Derived.Test.YtcbcekgjpcpibaaDoorRAlike
namespace Go.Proofs.YtcbcekgjpcpibaaDoor
open Go.RowKit
set_option maxRecDepth 20000

theorem getL_dec {n B : Nat} {b : Nat → Int} {k : Int} (hB : B ≠ 0) (h0 : b 0 = 2) (hk : k ≠ 0) (h : decR n B b 1 [] = (k, [], 0)) : getL n B b = (k, [], 0) := by
  have R : readL n B b = (k, [], 0) := by unfold readL; rw [if_neg hB, if_neg (by omega), if_neg (by omega), if_pos h0, h]
  unfold getL
  rw [R, if_pos hk]
theorem tail_dec {n B u : Nat} {b : Nat → Int} {L : List Int} (hb : ∀ i, i < B → 0 ≤ b i ∧ b i ≤ 255) (hn : 1 ≤ n) (hB : B ≠ 0) (h0 : b 0 = 2) (h : decR n B b 1 [] = (0, L, u)) :
    u ≤ B ∧ (fullB n (at0 L) = false → getL n B b = (3, [], 0)) ∧ (fullB n (at0 L) = true → sameB (putL n (at0 L)).length (at0 (putL n (at0 L))) u b = false → getL n B b = (3, [], 0)) ∧ (fullB n (at0 L) = true → sameB (putL n (at0 L)).length (at0 (putL n (at0 L))) u b = true → getL n B b = (0, L, u)) := by
  have R : readL n B b = (0, L, u) := by unfold readL; rw [if_neg hB, if_neg (by omega), if_neg (by omega), if_pos h0, h]
  obtain ⟨r1, r2, r3, -⟩ := readL_ok hb hn R
  refine ⟨r3, tail_eq hb hn (fun _ => R) (fun e => ?_)⟩
  obtain ⟨i, hi, hi0⟩ := (fullB_false _ _).1 e
  unfold at0 at hi0
  rw [List.getD_eq_getElem?_getD, List.getElem?_eq_getElem (by omega)] at hi0
  have := r2 (L[i]'(by omega)) (List.getElem_mem _)
  simp only [Option.getD_some] at hi0
  omega

set_option maxHeartbeats 6000000 in
theorem rget_runs (a : Option Addr) (B cap : Nat) (W H : Int) (n : Nat) (b : Nat → Int) (w : World) (h : Sl w a B b) (hB : 0 < B) (hc : B ≤ cap) (hB7 : B ≤ 1000000) (hW : 1 ≤ W ∧ W ≤ 16) (hH : 1 ≤ H ∧ H ≤ 16) (hn : (n : Int) = W * H) (h0 : b 0 = 2) :
    Calls Tryd.prog 10 #[.slice a B cap, .int .i64 W, .int .i64 H] w fun e w' => (∃ v, e = .returned v ∧ Gets w' W H (getL n B b) v) ∧ Gr w w' := by
  obtain ⟨i0, hi, hz0, hz1, hz2⟩ := info_parts info_u8
  obtain ⟨bb, oo, rfl, hbb, hcell⟩ := h.at hB
  have c0' := hcell 0 hB
  rw [Nat.add_zero] at c0'
  have m := mul_bd (w := W) (h := H) (W := 16) (H := 16) (by omega) (by omega) (by omega) (by omega)
  have mc := Int.mul_le_mul hW.1 hH.1 (by omega) (by omega : (0 : Int) ≤ W)
  have n1 : 1 ≤ n := by omega
  have n2 : n ≤ 256 := by omega
  have hnw : W * H = (n : Int) := hn.symm
  have b0 : (b 0 == 0) = false := by simp [h0]
  have b1 : (b 0 == 1) = false := by simp [h0]
  have b2 : (b 0 == 2) = true := by simp [h0]
  have hBi : ((B : Int) == 0) = false := by rw [beq_eq_false_iff_ne]; omega
  have HC := hide hcell
  have hbyte := hide h.byte
  have HTD := hide (fun L u => tail_dec (n := n) (u := u) (L := L) h.byte n1 (by omega) h0)
  have HGD := hide (fun k => getL_dec (n := n) (k := k) (show B ≠ 0 by omega) h0)
  clear hcell h0 hn
  go_enter Tryd.func10, Tryd.ntmps10
  go_wp2_with fail
  refine (in_yes _ _ _ _ (by omega) (by omega)).mono ?_
  rintro e w3 ⟨rfl, q3, rfl⟩
  go_wp2_with fail
  refine (in_yes _ _ _ _ (by omega) (by omega)).mono ?_
  rintro e w4 ⟨rfl, q4, hq4⟩
  obtain ⟨hg4, hz4⟩ := two_draws hq4
  clear hq4
  replace c0' := cell_gr c0' ((((Gr.refl w).alloc _).alloc _).trans hg4)
  have hnb : ¬ bb = w.heap.size + 2 := by omega
  have hlb : bb < w.heap.size + 2 := by omega
  have HST := hide (St.first4 (W := W) (H := H) hg4 hz4)
  obtain ⟨⟨y0, y1, y2⟩, ⟨z0, z1, z2⟩, f0, f1, f2⟩ := two_rows hg4
  clear z0 z1 z2 f0 f1 f2 y0 y1 y2
  go_wp2_with fail
  have hst0 := HST.out
  clear HST c0'
  generalize (w4.alloc (.cells #[.int .i64 W, .int .i64 H, .slice none 0 0] 26)) = u1 at *
  go_loopw [12] (fun s u => ∃ (p : Nat) (acc : List Int) (a0 : Option Addr) (c0 : Nat), 1 ≤ p ∧ p ≤ max B 1 ∧ s = .int .i64 p ∧ St w u W H a0 c0 acc ∧ acc.length ≤ n ∧ (∀ x ∈ acc, 0 ≤ x ∧ x ≤ 255) ∧ decR n B b 1 [] = decR n B b p acc) (fun s _ => B + 2 - (intOf s).toNat)
  case atStart => exact ⟨1, [], none, 0, Nat.le_refl _, by omega, rfl, hst0, Nat.zero_le _, by simp, rfl⟩
  case round =>
    obtain ⟨p, acc, a0, c0, hp, hpB, rfl, hst, hacc, hab, hdec⟩ := hrel
    clear hst0
    by_cases hend : n ≤ acc.length
    · obtain ⟨hu, hT⟩ := HTD.out _ _ (hdec.trans (decR_end hend))
      have HT := hide hT
      have huB := hu
      have hLb := hab
      have hLn : acc.length = n := by omega
      have hs1 : (p : Int) ≤ cap := by omega
      clear hdec hT hab HC hbyte HTD HGD hu
      subst hLn
      generalize wr = u5 at *
      obtain ⟨g, rfl, hob⟩ := hst.sl hLb (by omega)
      obtain ⟨p1, p2, -, -, hsl⟩ := hob.sl
      obtain ⟨⟨x0, x1, x2, -⟩, ⟨y0, y1, y2⟩, ⟨z0, z1, z2⟩, f0, f1, f2, hlt⟩ := hst.cells
      clear hob
      cases hfu : fullB acc.length (at0 acc)
      · have HG := hide (HT.out.1 hfu)
        go_wp2_with (go_at_call 19; refine (full_any _ _ _ (at0 acc) _ hsl (by unfold maxLen; omega)).mono ?_; rintro e w6 ⟨rfl, hw6⟩; subst hw6; rw [hfu])
        exact bodyPost_ret (v := .tuple #[.agg #[.int .i64 0, .int .i64 0, .slice none 0 0], .int .i64 0, .int .i64 3]) (by simp [results, Tryd.results10, go_sem, z0, z1, z2]) rfl ⟨⟨_, rfl, by rw [HG.out]; exact .inr ⟨by simp, rfl⟩⟩, gr_set3 (by first | exact hst.gr | exact hst.gr.trans hg7) (Nat.le_refl _)⟩
      · cases hsm : sameB (putL acc.length (at0 acc)).length (at0 (putL acc.length (at0 acc))) p b
        · have HG := hide (HT.out.2.1 hfu hsm)
          clear x0 x1 y0 y1 y2 z0 z1 z2 f0 f1 f2 hlt
          obtain ⟨⟨x0, x1, -, -⟩, -⟩ := hst.cells
          go_wp2_with (first | (go_at_call 19; refine (full_any _ _ _ (at0 acc) _ hsl (by unfold maxLen; omega)).mono ?_; rintro e w6 ⟨rfl, hw6⟩; subst hw6; rw [hfu]) | (go_at_call 20; refine (rput_any _ _ _ _ _ (at0 acc) _ hsl (by omega) (by omega)).mono ?_; rintro e w7 ⟨⟨g7, k7, rfl, ho7⟩, hg7⟩; have hs7 := hst.of hg7; obtain ⟨⟨x0, x1, x2, -⟩, ⟨y0, y1, y2⟩, ⟨z0, z1, z2⟩, f0, f1, f2, hlt⟩ := hs7.cells; have sl7 := ho7.sl.2.2.2.2; have HS7 := hide hs7; clear ho7 hs7) | (go_at_call 12; refine (rbytes_any _ _ _ _ _ _ (at0 (putL acc.length (at0 acc))) b _ sl7 (((h.take huB).gr hst.gr).gr hg7)).mono ?_; rintro e w8 ⟨rfl, hw8⟩; subst hw8; rw [hsm]))
          exact bodyPost_ret (v := .tuple #[.agg #[.int .i64 0, .int .i64 0, .slice none 0 0], .int .i64 0, .int .i64 3]) (by simp [results, Tryd.results10, go_sem, z0, z1, z2]) rfl ⟨⟨_, rfl, by rw [HG.out]; exact .inr ⟨by simp, rfl⟩⟩, gr_set3 (hst.gr.trans hg7) (Nat.le_refl _)⟩
        · have HG := hide (HT.out.2.2 hfu hsm)
          clear x0 x1 y0 y1 y2 z0 z1 z2 f0 f1 f2 hlt
          obtain ⟨⟨x0, x1, -, -⟩, -⟩ := hst.cells
          go_wp2_with (first | (go_at_call 19; refine (full_any _ _ _ (at0 acc) _ hsl (by unfold maxLen; omega)).mono ?_; rintro e w6 ⟨rfl, hw6⟩; subst hw6; rw [hfu]) | (go_at_call 20; refine (rput_any _ _ _ _ _ (at0 acc) _ hsl (by omega) (by omega)).mono ?_; rintro e w7 ⟨⟨g7, k7, rfl, ho7⟩, hg7⟩; have hs7 := hst.of hg7; obtain ⟨⟨x0, x1, x2, -⟩, ⟨y0, y1, y2⟩, ⟨z0, z1, z2⟩, f0, f1, f2, hlt⟩ := hs7.cells; have sl7 := ho7.sl.2.2.2.2; have HS7 := hide hs7; clear ho7 hs7) | (go_at_call 12; refine (rbytes_any _ _ _ _ _ _ (at0 (putL acc.length (at0 acc))) b _ sl7 (((h.take huB).gr hst.gr).gr hg7)).mono ?_; rintro e w8 ⟨rfl, hw8⟩; subst hw8; rw [hsm]))
          have hap := sl_apart (hsl.gr hg7) (by omega) z0
          exact bodyPost_ret (v := .tuple #[.agg #[.int .i64 W, .int .i64 H, .slice (some ⟨g, 0, none⟩) acc.length c0], .int .i64 p, .int .i64 0]) (by simp [results, Tryd.results10, go_sem, z0, z1, z2]) rfl ⟨⟨_, rfl, by
            rw [HG.out]
            exact .inl ⟨rfl, g, c0, rfl, p1, p2, (((hsl.gr hg7).setF (p := ⟨w.heap.size, 0, none⟩) hap).setF (p := ⟨w.heap.size, 1, none⟩) hap).setF (p := ⟨w.heap.size, 2, none⟩) hap⟩⟩, gr_set3 (hst.gr.trans hg7) (Nat.le_refl _)⟩
    have hlt : (acc.length : Int) < n := by omega
    by_cases hs : B < p + 2
    · have HG := hide (HGD.out 2 (by decide) (hdec.trans (decR_short hend hs)))
      have hs' : (B : Int) - p < 2 := by omega
      clear hdec HC hbyte HTD HGD
      obtain ⟨⟨x0, x1, x2, -⟩, ⟨y0, y1, y2⟩, ⟨z0, z1, z2⟩, f0, f1, f2, hlt5⟩ := hst.cells
      go_wp2
      exact bodyPost_ret (v := .tuple #[.agg #[.int .i64 0, .int .i64 0, .slice none 0 0], .int .i64 0, .int .i64 2]) (by simp [results, Tryd.results10, go_sem, z0, z1, z2]) rfl ⟨⟨_, rfl, by rw [HG.out]; exact .inr ⟨by simp, rfl⟩⟩, gr_set3 hst.gr (Nat.le_refl _)⟩
    have hs' : ¬ (B : Int) - p < 2 := by omega
    have c0 := cell_gr (HC.out p (by omega)) hst.gr
    have c1 := cell_gr (HC.out (p + 1) (by omega)) hst.gr
    have q0 := hbyte.out p (by omega)
    have q1 := hbyte.out (p + 1) (by omega)
    have p0 : 0 ≤ (p : Int) := by omega
    have p1 : (p : Int) < B := by omega
    have p2 : 0 ≤ (p : Int) + 1 := by omega
    have p3 : (p : Int) + 1 < B := by omega
    have p4 : ((p : Int) + 1).toNat = p + 1 := by omega
    have pw : IntKind.i64.wrap ((p : Int) + 1) = (p : Int) + 1 := wrapI (by omega)
    obtain ⟨k0, hk0⟩ : ∃ k0 : Nat, k0 = (b p).toNat := ⟨_, rfl⟩
    have hk1 : b p = (k0 : Int) := by omega
    rw [hk1] at c0
    obtain ⟨x, hx⟩ : ∃ x, x = b (p + 1) := ⟨_, rfl⟩
    rw [← hx] at c1 q1
    have kw : IntKind.i64.wrap (k0 : Int) = (k0 : Int) := wrapI (by omega)
    have kw1 : IntKind.i64.wrap ((k0 : Int) + 1) = (k0 : Int) + 1 := wrapI (by omega)
    have k255 : k0 ≤ 255 := by omega
    have HK0 := hide hk0
    have HX := hide hx
    have HDEC := hide hdec
    obtain ⟨⟨x0, x1, x2, xf⟩, -, -, -, -, -, xl⟩ := hst.cells
    have HST0 := hide hst
    clear hk0 hk1 hx hdec hst
    go_wp2_with fail
    go_quiet (fail)
    have hst := HST0.out.of ((Gr.refl _).drewN nq)
    clear c0 c1 HST0 x0 x1 x2 xf xl
    generalize wr.drewN nq = w1 at *
    by_cases hx0 : x = 0
    · have HG := hide (HGD.out 3 (by decide) (HDEC.out.trans (decR_bad hend hs (.inl (by rw [← HX.out]; exact hx0)))))
      have hx0' : (x == 0) = true := by simp [hx0]
      clear HDEC hx0
      obtain ⟨⟨x0, x1, x2, -⟩, ⟨y0, y1, y2⟩, ⟨z0, z1, z2⟩, f0, f1, f2, hlt5⟩ := hst.cells
      go_wp2
      exact bodyPost_ret (v := .tuple #[.agg #[.int .i64 0, .int .i64 0, .slice none 0 0], .int .i64 0, .int .i64 3]) (by simp [results, Tryd.results10, go_sem, z0, z1, z2]) rfl ⟨⟨_, rfl, by rw [HG.out]; exact .inr ⟨by simp, rfl⟩⟩, gr_set3 hst.gr (Nat.le_refl _)⟩
    have hx0' : (x == 0) = false := by simp [hx0]
    have HX0 := hide hx0
    clear hx0
    by_cases hbey : n < acc.length + (k0 + 1)
    · have HG := hide (HGD.out 3 (by decide) (HDEC.out.trans (decR_bad hend hs (.inr (.inl (by rw [← HK0.out]; exact hbey))))))
      have hb1 : (n : Int) < acc.length + ((k0 : Int) + 1) := by omega
      clear HDEC
      obtain ⟨⟨x0, x1, x2, -⟩, ⟨y0, y1, y2⟩, ⟨z0, z1, z2⟩, f0, f1, f2, hlt5⟩ := hst.cells
      go_wp2
      exact bodyPost_ret (v := .tuple #[.agg #[.int .i64 0, .int .i64 0, .slice none 0 0], .int .i64 0, .int .i64 3]) (by simp [results, Tryd.results10, go_sem, z0, z1, z2]) rfl ⟨⟨_, rfl, by rw [HG.out]; exact .inr ⟨by simp, rfl⟩⟩, gr_set3 hst.gr (Nat.le_refl _)⟩
    have hb1 : ¬ (n : Int) < acc.length + ((k0 : Int) + 1) := by omega
    by_cases hacc0 : 0 < acc.length
    · have ha0 : (0 : Int) < acc.length := by omega
      obtain ⟨g, rfl, hob⟩ := hst.sl hab hacc0
      have cl := hob.cellAt (i := acc.length - 1) (by omega)
      have hlast := at0_last hacc0
      obtain ⟨y, hy⟩ : ∃ y, y = at0 acc (acc.length - 1) := ⟨_, rfl⟩
      rw [← hy] at cl hlast
      clear hy hob
      have al1 : ((acc.length : Int) - 1).toNat = acc.length - 1 := by omega
      have al2 : 0 ≤ (acc.length : Int) - 1 := by omega
      have al3 : (acc.length : Int) - 1 < acc.length := by omega
      by_cases hxy : y = x
      · have HG := hide (HGD.out 3 (by decide) (HDEC.out.trans (decR_bad hend hs (.inr (.inr (by rw [hlast, ← HX.out, hxy]))))))
        have hxy' : (y == x) = true := by simp [hxy]
        clear HDEC hxy hlast
        obtain ⟨⟨x0, x1, x2, -⟩, ⟨y0, y1, y2⟩, ⟨z0, z1, z2⟩, f0, f1, f2, hlt5⟩ := hst.cells
        go_wp2
        exact bodyPost_ret (v := .tuple #[.agg #[.int .i64 0, .int .i64 0, .slice none 0 0], .int .i64 0, .int .i64 3]) (by simp [results, Tryd.results10, go_sem, z0, z1, z2]) rfl ⟨⟨_, rfl, by rw [HG.out]; exact .inr ⟨by simp, rfl⟩⟩, gr_set3 hst.gr (Nat.le_refl _)⟩
      · have HSTEP : Hid (¬ (b (p + 1) = 0 ∨ n < acc.length + ((b p).toNat + 1) ∨ acc.getLast? = some (b (p + 1)))) := hide (by
          rw [← HX.out, ← HK0.out, hlast]
          rintro (q | q | q)
          · exact HX0.out q
          · exact hbey q
          · exact hxy (Option.some.inj q))
        have hxy' : (y == x) = false := by simp [hxy]
        clear hxy hlast
        obtain ⟨⟨x0, x1, x2, xf⟩, -, -, -, -, -, xl⟩ := hst.cells
        go_wp2_with fail
        go_loopw [16] (fun s u => ∃ (i : Nat) (a1 : Option Addr) (c1 : Nat), i ≤ k0 + 1 ∧ s = .int .i64 i ∧ St w u W H a1 c1 (acc ++ List.replicate i x)) (fun s _ => k0 + 1 - (intOf s).toNat)
        case atStart => exact ⟨0, some ⟨g, 0, none⟩, c0, Nat.zero_le _, rfl, by simpa using hst⟩
        case round =>
          obtain ⟨i, a1, c1, hi', rfl, hst2⟩ := hrel
          clear x0 x1 x2 xf xl
          have hle2 : (acc ++ List.replicate i x).length = acc.length + i := by simp
          by_cases hik : i < k0 + 1
          · obtain ⟨⟨x0, x1, x2, xf⟩, -, -, -, -, -, xl⟩ := hst2.cells
            have HS0 := hide hst2
            have hik' : (i : Int) < (k0 : Int) + 1 := by omega
            clear hst2
            rw [hle2] at x2
            go_wp2_with (at_builtin; refine wpList_append_own _ rfl _ _ 22 rfl (w.heap.size + 3) 5 i0 (.int .u8 0) 1 1 Tryd.underlying22 hi hz0 hz1 hz2 rfl (by decide) (.slice a1 (acc.length + i) c1) (acc.length + i) ((acc ++ List.replicate i x).map (Value.int .u8)) rfl (by have q := own_gr HS0.out.own ((Gr.refl _).alloc (.cells #[.int .u8 x] 5)); rw [hle2] at q; exact q) ⟨wr.heap.size, 0, none⟩ 1 1 ([x].map (Value.int .u8)) rfl rfl (alloc_one wr _ _) (map_one _ _) (by unfold maxLen; omega) (by omega) (Nat.le_trans (show w.heap.size + 3 ≤ wr.heap.size + 1 by omega) (Nat.le_of_eq (World.size_alloc wr _).symm)) ?_; intro v' w5 hown5 hgrow5 hnil5; rw [← hle2] at hown5 hgrow5; obtain ⟨a2, c2, rfl, o1, s2, s1, s0, g5⟩ := HS0.out.step (M := [x]) ((Gr.refl _).alloc _) rfl hown5 hgrow5; have d3 := s2.cell (i := 2) (by omega); rw [tri_2] at d3; have g3 := s2.frozen 2; have HN := hide (St.next o1 s2 s1 s0 g5); clear hown5 hgrow5 hnil5 o1 s2 s1 s0)
            go_roundw
            case rel =>
              have e := HN.out
              rw [List.append_assoc, ← List.replicate_succ'] at e
              refine ⟨i + 1, a2, c2, by omega, by go_num, ?_⟩
              simpa using e
            case measure => simp [intOf]; omega
          · have hik2 : k0 + 1 = i := by omega
            subst hik2
            have hik' : ¬ ((k0 + 1 : Nat) : Int) < (k0 : Int) + 1 := by omega
            go_wp2
            go_roundw
            case rel =>
              refine ⟨p + 2, acc ++ List.replicate (k0 + 1) x, a1, c1, by omega, by omega, by go_num, hst2, by rw [hle2]; omega, ?_, ?_⟩
              · intro z hz
                rcases List.mem_append.1 hz with hz | hz
                · exact hab z hz
                · rw [(List.mem_replicate.1 hz).2]; exact q1
              · have hd := HDEC.out.trans (decR_step hend hs HSTEP.out)
                rw [← HX.out, ← HK0.out] at hd
                exact hd
            case measure => simp [intOf]; omega
    · have hacc1 : acc = [] := List.eq_nil_of_length_eq_zero (by omega)
      have HSTEP : Hid (¬ (b (p + 1) = 0 ∨ n < acc.length + ((b p).toNat + 1) ∨ acc.getLast? = some (b (p + 1)))) := hide (by
        rw [← HX.out, ← HK0.out]
        rintro (q | q | q)
        · exact HX0.out q
        · exact hbey q
        · rw [hacc1] at q; simp at q)
      have ha0 : ¬ (0 : Int) < acc.length := by omega
      clear hacc1
      obtain ⟨⟨x0, x1, x2, xf⟩, -, -, -, -, -, xl⟩ := hst.cells
      go_wp2_with fail
      go_loopw [16] (fun s u => ∃ (i : Nat) (a1 : Option Addr) (c1 : Nat), i ≤ k0 + 1 ∧ s = .int .i64 i ∧ St w u W H a1 c1 (acc ++ List.replicate i x)) (fun s _ => k0 + 1 - (intOf s).toNat)
      case atStart => exact ⟨0, a0, c0, Nat.zero_le _, rfl, by simpa using hst⟩
      case round =>
        obtain ⟨i, a1, c1, hi', rfl, hst2⟩ := hrel
        clear x0 x1 x2 xf xl
        have hle2 : (acc ++ List.replicate i x).length = acc.length + i := by simp
        by_cases hik : i < k0 + 1
        · obtain ⟨⟨x0, x1, x2, xf⟩, -, -, -, -, -, xl⟩ := hst2.cells
          have HS0 := hide hst2
          have hik' : (i : Int) < (k0 : Int) + 1 := by omega
          clear hst2
          rw [hle2] at x2
          go_wp2_with (at_builtin; refine wpList_append_own _ rfl _ _ 22 rfl (w.heap.size + 3) 5 i0 (.int .u8 0) 1 1 Tryd.underlying22 hi hz0 hz1 hz2 rfl (by decide) (.slice a1 (acc.length + i) c1) (acc.length + i) ((acc ++ List.replicate i x).map (Value.int .u8)) rfl (by have q := own_gr HS0.out.own ((Gr.refl _).alloc (.cells #[.int .u8 x] 5)); rw [hle2] at q; exact q) ⟨wr.heap.size, 0, none⟩ 1 1 ([x].map (Value.int .u8)) rfl rfl (alloc_one wr _ _) (map_one _ _) (by unfold maxLen; omega) (by omega) (Nat.le_trans (show w.heap.size + 3 ≤ wr.heap.size + 1 by omega) (Nat.le_of_eq (World.size_alloc wr _).symm)) ?_; intro v' w5 hown5 hgrow5 hnil5; rw [← hle2] at hown5 hgrow5; obtain ⟨a2, c2, rfl, o1, s2, s1, s0, g5⟩ := HS0.out.step (M := [x]) ((Gr.refl _).alloc _) rfl hown5 hgrow5; have d3 := s2.cell (i := 2) (by omega); rw [tri_2] at d3; have g3 := s2.frozen 2; have HN := hide (St.next o1 s2 s1 s0 g5); clear hown5 hgrow5 hnil5 o1 s2 s1 s0)
          go_roundw
          case rel =>
            have e := HN.out
            rw [List.append_assoc, ← List.replicate_succ'] at e
            refine ⟨i + 1, a2, c2, by omega, by go_num, ?_⟩
            simpa using e
          case measure => simp [intOf]; omega
        · have hik2 : k0 + 1 = i := by omega
          subst hik2
          have hik' : ¬ ((k0 + 1 : Nat) : Int) < (k0 : Int) + 1 := by omega
          go_wp2
          go_roundw
          case rel =>
            refine ⟨p + 2, acc ++ List.replicate (k0 + 1) x, a1, c1, by omega, by omega, by go_num, hst2, by rw [hle2]; omega, ?_, ?_⟩
            · intro z hz
              rcases List.mem_append.1 hz with hz | hz
              · exact hab z hz
              · rw [(List.mem_replicate.1 hz).2]; exact q1
            · have hd := HDEC.out.trans (decR_step hend hs HSTEP.out)
              rw [← HX.out, ← HK0.out] at hd
              exact hd
          case measure => simp [intOf]; omega

end Go.Proofs.YtcbcekgjpcpibaaDoor
