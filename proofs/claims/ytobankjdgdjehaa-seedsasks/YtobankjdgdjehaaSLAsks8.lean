/- SeedsAsks' walk: it answers true at every input; nothing that was there is written. -/
import Derived.Test.YtobankjdgdjehaaSSeeds8
import Derived.Test.YtobankjdgdjehaaSLSorts8
namespace Go.Proofs.Ytobankjdgdjehaa
open Go.RowKit
set_option maxRecDepth 20000

theorem row_tri {u : World} {p : Nat} {x y z : Value} (h : u.rowIs p 24 3 (tri x y z)) : (u.cell? ⟨p, 0, none⟩ = some x ∧ u.cell? ⟨p, 1, none⟩ = some y ∧ u.cell? ⟨p, 2, none⟩ = some z) ∧ ∀ i, u.frozen? ⟨p, i, none⟩ = false :=
  ⟨⟨h.cell (i := 0) (by omega), h.cell (i := 1) (by omega), h.cell (i := 2) (by omega)⟩, fun i => h.frozen i⟩

theorem keep3 {u0 u : World} {B : Nat} {x y z : Value} (h : u0.cell? ⟨B, 0, none⟩ = some x ∧ u0.cell? ⟨B, 1, none⟩ = some y ∧ u0.cell? ⟨B, 2, none⟩ = some z ∧ Gr u0 u0) (g : Gr u0 u) :
    u.cell? ⟨B, 0, none⟩ = some x ∧ u.cell? ⟨B, 1, none⟩ = some y ∧ u.cell? ⟨B, 2, none⟩ = some z ∧ Gr u0 u :=
  ⟨cell_gr h.1 g, cell_gr h.2.1 g, cell_gr h.2.2.1 g, g⟩
set_option maxHeartbeats 4000000 in
theorem seedsAsks_any (W H : Int) (a : Option Addr) (n cap : Nat) (f : Nat → Int) (x y : Int) (al : Option Addr) (ln lc : Nat) (L : List Sd) (ak : Option Addr) (m kc : Nat) (z : Nat → Int) (cl sd : Int) (raw : Bool) (w : World)
    (h : Sl w a n f) (hn : n ≤ maxLen) (ha : a = none → n = 0 ∧ cap = 0) (hl : SlS w al ln lc L) (hk : SlI w ak m z) (hm : m ≤ maxLen) :
    Calls Try.prog 3 #[.agg #[.int .i64 W, .int .i64 H, .slice a n cap], .int .i64 x, .int .i64 y, .slice al ln lc, .slice ak m kc, .int .i64 cl, .int .i64 sd, .bool raw] w fun e w' => e = .returned (.bool true) ∧ Gr w w' := by
  unfold maxLen at hn hm
  obtain ⟨c1, c2, c3⟩ := tri_at w W H (.slice a n cap)
  have hg1 : Gr w (w.alloc (.cells #[.int .i64 W, .int .i64 H, .slice a n cap] 24)) := (Gr.refl w).alloc _
  go_enter Try.func3, Try.ntmps3
  go_upto_region 1 with fail
  generalize (w.alloc (.cells #[.int .i64 W, .int .i64 H, .slice a n cap] 24)) = w1 at *
  generalize w.heap.size = B0 at *
  have hsl := h.gr hg1
  replace hl := hl.gr hg1
  replace hk := hk.gr hg1
  clear h
  by_cases h6 : 600 < n
  · have h6i : (600 : Int) < (n : Int) := by omega
    go_wp2_with fail
    refine (told8_any _).mono ?_
    rintro e w2 ⟨rfl, hg2⟩
    go_wp2
    go_ret
    exact ⟨rfl, hg1.trans hg2⟩
  · have h6i : ¬ (600 : Int) < (n : Int) := by omega
    by_cases h60 : 60 < m
    · have h60i : (60 : Int) < (m : Int) := by omega
      go_wp2_with fail
      refine (told8_any _).mono ?_
      rintro e w2 ⟨rfl, hg2⟩
      go_wp2
      go_ret
      exact ⟨rfl, hg1.trans hg2⟩
    · have h60i : ¬ (60 : Int) < (m : Int) := by omega
      go_wp2_with fail
      refine (ownTile_any W H a n cap f w1 hsl (by omega) ha).mono ?_
      rintro e w2 ⟨⟨g1, k1, rfl, hown1⟩, hg2⟩
      obtain ⟨p1, p2, p3, p4, p5⟩ := hown1.sl
      clear hown1 h6i h60i
      replace c1 := cell_gr c1 hg2
      replace c2 := cell_gr c2 hg2
      replace c3 := cell_gr c3 hg2
      go_wp2_with fail
      refine (few_l al ln lc L w2 (hl.gr hg2)).mono ?_
      rintro e w3 ⟨⟨a1, c1', n1, rfl, q1, kl, hown2, s1⟩, hg3⟩
      generalize L.take 60 = M at *
      have t1 := p5.gr hg3
      have hgr := (hg1.trans hg2).trans hg3
      replace hsl := (hsl.gr hg2).gr hg3
      replace hk := (hk.gr hg2).gr hg3
      replace c1 := cell_gr c1 hg3
      replace c2 := cell_gr c2 hg3
      replace c3 := cell_gr c3 hg3
      have h12 : w1.heap.size ≤ w2.heap.size := hg2.size
      clear hl hg1 hg2 hg3 p5 p4 p3
      go_upto_if 35 with fail
      have hrow := tri_alloc w3 (.int .i64 W) (.int .i64 H) (.slice (some ⟨g1, 0, none⟩) n k1) 24
      obtain ⟨u1, hu1⟩ : ∃ u1, u1 = w3.alloc (.cells #[.int .i64 W, .int .i64 H, .slice (some ⟨g1, 0, none⟩) n k1] 24) := ⟨_, rfl⟩
      have hgu : Gr w3 u1 := hu1 ▸ (Gr.refl w3).alloc _
      obtain ⟨BX, hBX⟩ : ∃ BX, BX = w3.heap.size := ⟨_, rfl⟩
      rw [← hu1, ← hBX] at hrow
      rw [← hu1, ← hBX]
      have HBX := hide hBX
      clear hu1 hBX
      go_cut [5, 6, 18] from 36 (fun c s v u => ∃ (C S W' H' : Int) (g' n' c' : Nat) (f' : Nat → Int) (a2 : Option Addr) (k2 c2 : Nat) (M' : List Sd), c = .int .i64 C ∧ s = .int .i64 S ∧ v = .slice a2 k2 c2 ∧ k2 ≤ 200 ∧ Hid (M'.length = k2) ∧ SlS u a2 k2 c2 M' ∧ u.rowIs BX 24 3 (tri (.int .i64 W') (.int .i64 H') (.slice (some ⟨g', 0, none⟩) n' c')) ∧ Sl u (some ⟨g', 0, none⟩) n' f' ∧ Gr w u)
      case first =>
        cases raw with
        | true =>
          go_wp2_with fail
          go_meet
          exact ⟨cl, sd, W, H, g1, n, k1, f, a1, n1, c1', M, rfl, rfl, rfl, by omega, kl, s1.gr hgu, hrow, t1.gr hgu, hgr.trans hgu⟩
        | false =>
          have hk3 := hide hk
          have s3 := hide s1
          have g3 := hide hgr
          have hBu := hrow.lt
          replace c1 := cell_gr c1 hgu
          replace c2 := cell_gr c2 hgu
          replace c3 := cell_gr c3 hgu
          replace hsl := hsl.gr hgu
          replace hk := hk.gr hgu
          replace s1 := s1.gr hgu
          replace hgr := hgr.trans hgu
          go_wp2_with fail
          refine (madeTile_any x y a n cap f u1 hsl (by unfold maxLen; omega)).mono ?_
          rintro e u2 ⟨⟨gm, cm, N, rfl, hN, hown⟩, hgm⟩
          have hmay := made_may hsl.byte hN
          have hlo := hown.sl.2.2.1
          have hrow2 := row_gr hrow hgm
          obtain ⟨⟨r1, r2, r3⟩, hfz⟩ := row_tri hrow2
          replace hk := hk.gr hgm
          replace s1 := s1.gr hgm
          replace hgr' := hgr.trans hgm
          clear c1 c2 c3 hsl
          generalize withinF x 1 16 = W' at *
          generalize withinF y 1 16 = H' at *
          generalize madeF n f = f' at *
          have HN := hide hN
          have HMAY := hide hmay
          clear hN hmay
          obtain ⟨N1, N2, -, -⟩ := mayTB_n HMAY.out
          have hkp : Kp (fun k => k = BX) u2 (((u2.setCell ⟨BX, 0, none⟩ (.int .i64 W')).setCell ⟨BX, 1, none⟩ (.int .i64 H')).setCell ⟨BX, 2, none⟩ (.slice (some ⟨gm, 0, none⟩) N cm)) := (((Kp.refl (fun k => k = BX) u2).set (p := ⟨BX, 0, none⟩) (.inl rfl) _).set (p := ⟨BX, 1, none⟩) (.inl rfl) _).set (p := ⟨BX, 2, none⟩) (.inl rfl) _
          have hg3u : Gr w3 (((u2.setCell ⟨BX, 0, none⟩ (.int .i64 W')).setCell ⟨BX, 1, none⟩ (.int .i64 H')).setCell ⟨BX, 2, none⟩ (.slice (some ⟨gm, 0, none⟩) N cm)) := (((hgu.trans hgm).set (p := ⟨BX, 0, none⟩) (by rw [HBX.out]; exact Nat.le_refl _) _).set (p := ⟨BX, 1, none⟩) (by rw [HBX.out]; exact Nat.le_refl _) _).set (p := ⟨BX, 2, none⟩) (by rw [HBX.out]; exact Nat.le_refl _) _
          have hrow3 : (((u2.setCell ⟨BX, 0, none⟩ (.int .i64 W')).setCell ⟨BX, 1, none⟩ (.int .i64 H')).setCell ⟨BX, 2, none⟩ (.slice (some ⟨gm, 0, none⟩) N cm)).rowIs BX 24 3 (tri (.int .i64 W') (.int .i64 H') (.slice (some ⟨gm, 0, none⟩) N cm)) := (((hrow2.set 0 _).set 1 _).set 2 _).congr (fun i hi => by rcases (by omega : i = 0 ∨ i = 1 ∨ i = 2) with rfl | rfl | rfl <;> rfl)
          have hslm := hkp.sl hown.sl.2.2.2.2 (by omega)
          have hN256 : N ≤ 256 := by
            have := within_bd x 1 16 (by omega)
            obtain ⟨n1', n2', _, _⟩ := mayTB_n HMAY.out
            omega
          clear hkp hown hk s1 hgr hgr' hrow hrow2 hlo hgm hgu
          go_upto_region 6 with fail
          clear r1 r2 r3 hfz
          generalize (((u2.setCell ⟨BX, 0, none⟩ (.int .i64 W')).setCell ⟨BX, 1, none⟩ (.int .i64 H')).setCell ⟨BX, 2, none⟩ (.slice (some ⟨gm, 0, none⟩) N cm)) = u3 at *
          obtain ⟨⟨r1, r2, r3⟩, hfz⟩ := row_tri hrow3
          have hwr : IntKind.i64.wrap ((N : Int) - 1) = (N : Int) - 1 := wrapI (by omega)
          go_wp2_with fail
          refine (within_any cl 0 ((N : Int) - 1) _ (by omega) (by omega) (by omega)).mono ?_
          rintro e u4 ⟨rfl, hd4⟩
          generalize withinF cl 0 ((N : Int) - 1) = C'
          replace hrow3 := row_gr hrow3 hd4.gr
          replace hslm := hslm.gr hd4.gr
          replace hg3u := hg3u.trans hd4.gr
          clear hd4 r1 r2 r3 hfz
          go_wp2_with fail
          refine (within_any sd 0 4 _ (by omega) (by omega) (by omega)).mono ?_
          rintro e u5 ⟨rfl, hd5⟩
          generalize withinF sd 0 4 = S'
          replace hrow3 := row_gr hrow3 hd5.gr
          replace hslm := hslm.gr hd5.gr
          replace hg3u := hg3u.trans hd5.gr
          clear hd5
          obtain ⟨⟨r1, r2, r3⟩, hfz⟩ := row_tri hrow3
          have hk5 := hk3.out.gr hg3u
          have s5 := s3.out.gr hg3u
          obtain ⟨q, hq⟩ : ∃ q, q = min n1 1 := ⟨_, rfl⟩
          have hqn : q ≤ n1 := by omega
          have hq1 : q ≤ 1 := by omega
          have e1 : min (n1 : Int) 1 = (q : Int) := by omega
          have hqc : (0 : Int) ≤ (q : Int) ∧ (q : Int) ≤ (c1' : Int) := by have := s5.len; omega
          have sq := s5.take hqn
          clear hq
          go_wp2_with fail
          go_region_held3 (fun u => u.cell? ⟨BX, 0, none⟩ = some (.int .i64 W') ∧ u.cell? ⟨BX, 1, none⟩ = some (.int .i64 H') ∧ u.cell? ⟨BX, 2, none⟩ = some (.slice (some ⟨gm, 0, none⟩) N cm) ∧ Gr u5 u) ((refine keep3 ⟨r1, r2, r3, Gr.refl _⟩ ?_; exact (by (repeat (first | (with_reducible exact Gr.refl _) | (with_reducible assumption) | (with_reducible refine Gr.alloc ?_ _) | (with_reducible refine Gr.drew ?_) | (with_reducible refine Gr.set ?_ (by dsimp only; omega) _) | (with_reducible refine Gr.trans ?_ (by with_reducible assumption)))); first | done | fail))) (first | (go_at_call 13; refine (seeds8_any W' H' _ N cm f' ak m kc z _ (hslm.gr (by (repeat (first | (with_reducible exact Gr.refl _) | (with_reducible assumption) | (with_reducible refine Gr.alloc ?_ _) | (with_reducible refine Gr.drew ?_) | (with_reducible refine Gr.set ?_ (by dsimp only; omega) _) | (with_reducible refine Gr.trans ?_ (by with_reducible assumption)))); first | done | fail)) (by omega) (by omega) (hk5.gr (by (repeat (first | (with_reducible exact Gr.refl _) | (with_reducible assumption) | (with_reducible refine Gr.alloc ?_ _) | (with_reducible refine Gr.drew ?_) | (with_reducible refine Gr.set ?_ (by dsimp only; omega) _) | (with_reducible refine Gr.trans ?_ (by with_reducible assumption)))); first | done | fail)) (by omega)).mono ?_; rintro e6 w6 ⟨⟨a6, c6, k6, M6, rfl, hk6, HM6, hown6⟩, hg6⟩) | (refine step_seeds rfl (.tmp 51) (.tmp 56) rfl u5.heap.size _ k6 _ rfl (own_gr3 hown6 (by (repeat (first | (with_reducible exact Gr.refl _) | (with_reducible assumption) | (with_reducible refine Gr.alloc ?_ _) | (with_reducible refine Gr.drew ?_) | (with_reducible refine Gr.set ?_ (by dsimp only; omega) _) | (with_reducible refine Gr.trans ?_ (by with_reducible assumption)))); first | done | fail)) _ q c1' (M.take q) rfl (sq.gr (by (repeat (first | (with_reducible exact Gr.refl _) | (with_reducible assumption) | (with_reducible refine Gr.alloc ?_ _) | (with_reducible refine Gr.drew ?_) | (with_reducible refine Gr.set ?_ (by dsimp only; omega) _) | (with_reducible refine Gr.trans ?_ (by with_reducible assumption)))); first | done | fail)) (by omega) (N := k6 + q) rfl (Gr.size (a := u5) (by (repeat (first | (with_reducible exact Gr.refl _) | (with_reducible assumption) | (with_reducible refine Gr.alloc ?_ _) | (with_reducible refine Gr.drew ?_) | (with_reducible refine Gr.set ?_ (by dsimp only; omega) _) | (with_reducible refine Gr.trans ?_ (by with_reducible assumption)))); first | done | fail)) ?_; intro a7 c7 w7 hown7 hgrow7; have hg7 : Gr u5 w7 := Gr.grown (by (repeat (first | (with_reducible exact Gr.refl _) | (with_reducible assumption) | (with_reducible refine Gr.alloc ?_ _) | (with_reducible refine Gr.drew ?_) | (with_reducible refine Gr.set ?_ (by dsimp only; omega) _) | (with_reducible refine Gr.trans ?_ (by with_reducible assumption)))); first | done | fail) hgrow7 (fun k e => (hown6.lt k e).1); clear hgrow7))
          all_goals
            go_wp2_with fail
            go_meet
            have hl7 : (M6 ++ M.take q).length = k6 + q := by rw [List.length_append, HM6.out, sq.len.1]
            rw [← flatS_app] at hown7
            exact ⟨C', S', W', H', gm, N, cm, f', a7, k6 + q, c7, M6 ++ M.take q, rfl, rfl, rfl, by omega, hl7, sls_own hown7 hl7, row_gr hrow3 hg7, hslm.gr hg7, g3.out.trans (hg3u.trans hg7)⟩
      case rest =>
        obtain ⟨C, S, W', H', g', n', c', f', a2, k2, c2, M', rfl, rfl, rfl, hk2, hM', s2, hrow2, hsl2, hgr2⟩ := hcut
        clear hrow hsl hk s1 t1 hgr hgu
        generalize wc = w4 at *
        have h0k : 0 + k2 = k2 := Nat.zero_add k2
        go_wp2_with (at_builtin; refine wpList_seeds rfl (.tmp 58) (.tmp 59) rfl w4.heap.size _ 0 [] rfl (seeds_empty w4) a2 k2 c2 M' rfl (s2.gr ((Gr.refl _).alloc _)) (by omega) h0k (by simp) ?_; intro a8 c8 w5 hown8 hgrow8)
        have hg8 : Gr w4 w5 := ((Gr.refl w4).alloc _).grown hgrow8 (fun b e => by cases e; exact Nat.le_refl _)
        have s8 : SlS w5 a8 k2 c8 M' := sls_own (by simpa using hown8) hM'.out
        replace s2 := s2.gr hg8
        replace hrow2 := row_gr hrow2 hg8
        replace hsl2 := hsl2.gr hg8
        replace hgr2 := hgr2.trans hg8
        clear hown8 hgrow8 hg8 hM'
        obtain ⟨⟨r1, r2, r3⟩, -⟩ := row_tri hrow2
        obtain ⟨rm, hrm⟩ : ∃ rm, rm = mayS W' H' n' f' M' := ⟨_, rfl⟩
        obtain ⟨rb, hrb⟩ : ∃ rb, rb = (bst INF C S M').1 := ⟨_, rfl⟩
        have HRM := hide hrm
        have HRB := hide hrb
        clear hrow2 hrm hrb
        go_region_held3 (fun u => u.cell? ⟨BX, 0, none⟩ = some (.int .i64 W') ∧ u.cell? ⟨BX, 1, none⟩ = some (.int .i64 H') ∧ u.cell? ⟨BX, 2, none⟩ = some (.slice (some ⟨g', 0, none⟩) n' c') ∧ Gr w5 u) ((refine keep3 ⟨r1, r2, r3, Gr.refl _⟩ ?_; exact (by (repeat (first | (with_reducible exact Gr.refl _) | (with_reducible assumption) | (with_reducible refine Gr.alloc ?_ _) | (with_reducible refine Gr.drew ?_) | (with_reducible refine Gr.set ?_ (by dsimp only; omega) _) | (with_reducible refine Gr.trans ?_ (by with_reducible assumption)))); first | done | fail))) (first | (go_at_call 8; refine (told8_any _).mono ?_; rintro e9 w9 ⟨rfl, hg9⟩) | (go_at_call 14; refine (smay_any W' H' _ n' c' f' a2 k2 c2 M' _ (hsl2.gr (by (repeat (first | (with_reducible exact Gr.refl _) | (with_reducible assumption) | (with_reducible refine Gr.alloc ?_ _) | (with_reducible refine Gr.drew ?_) | (with_reducible refine Gr.set ?_ (by dsimp only; omega) _) | (with_reducible refine Gr.trans ?_ (by with_reducible assumption)))); first | done | fail)) (s2.gr (by (repeat (first | (with_reducible exact Gr.refl _) | (with_reducible assumption) | (with_reducible refine Gr.alloc ?_ _) | (with_reducible refine Gr.drew ?_) | (with_reducible refine Gr.set ?_ (by dsimp only; omega) _) | (with_reducible refine Gr.trans ?_ (by with_reducible assumption)))); first | done | fail))).mono ?_; rintro e9 w9 ⟨rfl, hg9⟩; rw [← HRM.out]) | (go_at_call 15; refine (rmay8_any W' H' _ n' c' f' a2 k2 c2 M' _ (hsl2.gr (by (repeat (first | (with_reducible exact Gr.refl _) | (with_reducible assumption) | (with_reducible refine Gr.alloc ?_ _) | (with_reducible refine Gr.drew ?_) | (with_reducible refine Gr.set ?_ (by dsimp only; omega) _) | (with_reducible refine Gr.trans ?_ (by with_reducible assumption)))); first | done | fail)) (s2.gr (by (repeat (first | (with_reducible exact Gr.refl _) | (with_reducible assumption) | (with_reducible refine Gr.alloc ?_ _) | (with_reducible refine Gr.drew ?_) | (with_reducible refine Gr.set ?_ (by dsimp only; omega) _) | (with_reducible refine Gr.trans ?_ (by with_reducible assumption)))); first | done | fail))).mono ?_; rintro e9 w9 ⟨rfl, hg9⟩; rw [← HRM.out]) | (go_at_call 16; refine (best_any a2 k2 c2 M' C S _ (s2.gr (by (repeat (first | (with_reducible exact Gr.refl _) | (with_reducible assumption) | (with_reducible refine Gr.alloc ?_ _) | (with_reducible refine Gr.drew ?_) | (with_reducible refine Gr.set ?_ (by dsimp only; omega) _) | (with_reducible refine Gr.trans ?_ (by with_reducible assumption)))); first | done | fail))).mono ?_; rintro e9 w9 ⟨rfl, hg9⟩; rw [← HRB.out]) | (go_at_call 17; refine (rbest_any a2 k2 c2 M' C S _ (s2.gr (by (repeat (first | (with_reducible exact Gr.refl _) | (with_reducible assumption) | (with_reducible refine Gr.alloc ?_ _) | (with_reducible refine Gr.drew ?_) | (with_reducible refine Gr.set ?_ (by dsimp only; omega) _) | (with_reducible refine Gr.trans ?_ (by with_reducible assumption)))); first | done | fail))).mono ?_; rintro e9 w9 ⟨rfl, hg9⟩; rw [← HRB.out]) | (go_at_call 18; refine (rsame_any a2 k2 c2 M' a8 k2 c8 M' _ (s2.gr (by (repeat (first | (with_reducible exact Gr.refl _) | (with_reducible assumption) | (with_reducible refine Gr.alloc ?_ _) | (with_reducible refine Gr.drew ?_) | (with_reducible refine Gr.set ?_ (by dsimp only; omega) _) | (with_reducible refine Gr.trans ?_ (by with_reducible assumption)))); first | done | fail)) (s8.gr (by (repeat (first | (with_reducible exact Gr.refl _) | (with_reducible assumption) | (with_reducible refine Gr.alloc ?_ _) | (with_reducible refine Gr.drew ?_) | (with_reducible refine Gr.set ?_ (by dsimp only; omega) _) | (with_reducible refine Gr.trans ?_ (by with_reducible assumption)))); first | done | fail))).mono ?_; rintro e9 w9 ⟨rfl, hg9⟩; rw [decide_eq_true (show M' = M' from rfl)]; have hgf : Gr w5 w9 := (by (repeat (first | (with_reducible exact Gr.refl _) | (with_reducible assumption) | (with_reducible refine Gr.alloc ?_ _) | (with_reducible refine Gr.drew ?_) | (with_reducible refine Gr.set ?_ (by dsimp only; omega) _) | (with_reducible refine Gr.trans ?_ (by with_reducible assumption)))); first | done | fail)))
        all_goals
          go_wp2
          go_ret
          exact ⟨rfl, hgr2.trans hgf⟩

end Go.Proofs.Ytobankjdgdjehaa
