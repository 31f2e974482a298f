/- FieldAsks' walk: it answers true at every input. No condition. -/
import Derived.Test.YtlnbolaaaahoaaaFRField10
import Derived.Test.YtlnbolaaaahoaaaBS3
namespace Go.Proofs.Ytlnbolaaaahoaaa
open Go.RowKit
set_option maxRecDepth 20000

theorem row_tri9 {u : World} {p : Nat} {x y z : Value} (h : u.rowIs p 24 3 (tri x y z)) : (u.cell? ⟨p, 0, none⟩ = some x ∧ u.cell? ⟨p, 1, none⟩ = some y ∧ u.cell? ⟨p, 2, none⟩ = some z) ∧ ∀ i, u.frozen? ⟨p, i, none⟩ = false :=
  ⟨⟨h.cell (i := 0) (by omega), h.cell (i := 1) (by omega), h.cell (i := 2) (by omega)⟩, fun i => h.frozen i⟩
theorem keep39 {u0 u : World} {B : Nat} {x y z : Value} (h : u0.cell? ⟨B, 0, none⟩ = some x ∧ u0.cell? ⟨B, 1, none⟩ = some y ∧ u0.cell? ⟨B, 2, none⟩ = some z ∧ Gr u0 u0) (g : Gr u0 u) :
    u.cell? ⟨B, 0, none⟩ = some x ∧ u.cell? ⟨B, 1, none⟩ = some y ∧ u.cell? ⟨B, 2, none⟩ = some z ∧ Gr u0 u := ⟨cell_gr h.1 g, cell_gr h.2.1 g, cell_gr h.2.2.1 g, g⟩
theorem SlI.congr {w : World} {a : Option Addr} {n : Nat} {f g : Nat → Int} (h : SlI w a n f) (e : ∀ i, i < n → g i = f i) : SlI w a n g := by
  rcases h with h | ⟨b, o, ea, hb, hc⟩
  · exact .inl h
  · exact .inr ⟨b, o, ea, hb, fun i hi => by rw [e i hi]; exact hc i hi⟩
theorem tile_n {W H : Int} {n : Nat} {f : Nat → Int} {L : List Sd} (h : mayS W H n f L = true) : 1 ≤ n ∧ n ≤ 256 := by
  unfold mayS at h
  rw [Bool.and_eq_true] at h
  exact ⟨(mayTB_n h.1).1, (mayTB_n h.1).2.1⟩
set_option maxHeartbeats 1000000 in
theorem rsamef_any (a1 a2 b1 b2 : Option Addr) (n c1 c2 e1 e2 : Nat) (F D : Nat → Int) (w : World) (h1 : SlI w a1 n F) (h2 : SlI w a2 n D) (k1 : SlI w b1 n F) (k2 : SlI w b2 n D) (hn : n ≤ 1000000) :
    Calls Try.prog 15 #[.agg #[.slice a1 n c1, .slice a2 n c2], .agg #[.slice b1 n e1, .slice b2 n e2]] w fun e w' => e = .returned (.bool true) ∧ Gr w w' := by
  obtain ⟨p1, p2, -, -⟩ := pair_at (pair_alloc w (.slice a1 n c1) (.slice a2 n c2) 33)
  have g1 : Gr w (w.alloc (.cells #[.slice a1 n c1, .slice a2 n c2] 33)) := (Gr.refl w).alloc _
  have hs1 := World.size_alloc w (.cells #[.slice a1 n c1, .slice a2 n c2] 33)
  obtain ⟨w1, hw1⟩ : ∃ w1, w1 = w.alloc (.cells #[.slice a1 n c1, .slice a2 n c2] 33) := ⟨_, rfl⟩
  rw [← hw1] at p1 p2 g1 hs1
  obtain ⟨q1, q2, -, -⟩ := pair_at (pair_alloc w1 (.slice b1 n e1) (.slice b2 n e2) 33)
  have g2 : Gr w1 (w1.alloc (.cells #[.slice b1 n e1, .slice b2 n e2] 33)) := (Gr.refl w1).alloc _
  obtain ⟨w2, hw2⟩ : ∃ w2, w2 = w1.alloc (.cells #[.slice b1 n e1, .slice b2 n e2] 33) := ⟨_, rfl⟩
  rw [← hw2] at q1 q2 g2
  rw [hs1] at q1 q2
  replace p1 := cell_gr p1 g2
  replace p2 := cell_gr p2 g2
  have hgr := g1.trans g2
  go_enter Try.func15, Try.ntmps15
  go_upto_region 1 with fail
  rw [← hw1, ← hw2]
  clear hw1 hw2 g1 g2 hs1
  generalize w.heap.size = B at *
  go_wp2_with fail
  refine (ints_same _ _ n _ _ F w2 (h1.gr hgr) (k1.gr hgr) hn).mono ?_
  rintro e w3 ⟨rfl, hd3⟩
  have hg3 := hd3.gr
  replace p2 := cell_gr p2 hg3
  replace q2 := cell_gr q2 hg3
  go_wp2_with fail
  refine (ints_same _ _ n _ _ D w3 ((h2.gr hgr).gr hg3) ((k2.gr hgr).gr hg3) hn).mono ?_
  rintro e w4 ⟨rfl, hd4⟩
  go_wp2_with fail
  go_ret
  exact ⟨rfl, (hgr.trans hg3).trans hd4.gr⟩

set_option maxHeartbeats 6000000 in
theorem fieldAsks_any (W H : Int) (a : Option Addr) (n cap : Nat) (f : Nat → Int) (x y : Int) (ak : Option Addr) (m kc : Nat) (z : Nat → Int) (al : Option Addr) (ln lc : Nat) (L : List Sd) (raw : Bool) (w : World)
    (h : Sl w a n f) (hn : n ≤ maxLen) (ha : a = none → n = 0 ∧ cap = 0) (hk : SlI w ak m z) (hkm : m ≤ kc ∧ kc ≤ maxLen) (hkn : ak = none → m = 0 ∧ kc = 0) (hl : SlS w al ln lc L) :
    Calls Try.prog 3 #[.agg #[.int .i64 W, .int .i64 H, .slice a n cap], .int .i64 x, .int .i64 y, .slice ak m kc, .slice al ln lc, .bool raw] w fun e w' => e = .returned (.bool true) ∧ Gr w w' := by
  have hlm := hl.len.2
  unfold maxLen at hn
  have hlm2 : ln ≤ 9223372036854775807 := by
    have := hlm.2
    unfold maxLen at this
    omega
  obtain ⟨c1, c2, c3⟩ := tri_at w W H (.slice a n cap)
  have hg1 : Gr w (w.alloc (.cells #[.int .i64 W, .int .i64 H, .slice a n cap] 24)) := (Gr.refl w).alloc _
  go_enter Try.func3, Try.ntmps3
  go_upto_region 1 with fail
  generalize (w.alloc (.cells #[.int .i64 W, .int .i64 H, .slice a n cap] 24)) = w1 at *
  generalize w.heap.size = B0 at *
  have hsl := h.gr hg1
  replace hl := hl.gr hg1
  replace hk := hk.gr hg1
  clear h
  by_cases h6 : 600 < n
  · have h6i : (600 : Int) < (n : Int) := by omega
    go_wp2_with fail
    refine (told10_any _).mono ?_
    rintro e w2 ⟨rfl, hg2⟩
    go_wp2
    go_ret
    exact ⟨rfl, hg1.trans hg2⟩
  · have h6i : ¬ (600 : Int) < (n : Int) := by omega
    by_cases h40 : 40 < ln
    · have h40i : (40 : Int) < (ln : Int) := by omega
      go_wp2_with fail
      refine (told10_any _).mono ?_
      rintro e w2 ⟨rfl, hg2⟩
      go_wp2
      go_ret
      exact ⟨rfl, hg1.trans hg2⟩
    · have h40i : ¬ (40 : Int) < (ln : Int) := by omega
      go_wp2_with fail
      refine (ownTile_any W H a n cap f w1 hsl (by omega) ha).mono ?_
      rintro e w2 ⟨⟨g1, k1, rfl, hown1⟩, hg2⟩
      obtain ⟨p1, p2, p3, p4, p5⟩ := hown1.sl
      clear hown1 h6i h40i
      replace c1 := cell_gr c1 hg2
      replace c2 := cell_gr c2 hg2
      replace c3 := cell_gr c3 hg2
      replace hl := hl.gr hg2
      have h0l : 0 + ln = ln := Nat.zero_add ln
      have hgr := hg1.trans hg2
      have hHL := hide hl.len.1
      go_upto_if 33 with (at_builtin; refine wpList_seeds rfl (.tmp 29) (.tmp 30) rfl w2.heap.size _ 0 [] rfl (seeds_empty w2) al ln lc L rfl (hl.gr ((Gr.refl _).alloc _)) (by omega) h0l (by simp) ?_; intro a1 c1' w3 hown2 hgrow2)
      have hg3 : Gr w2 w3 := ((Gr.refl w2).alloc _).grown hgrow2 (fun b e => by cases e; exact Nat.le_refl _)
      have hpl1 := plain_own hown2
      have s1 : SlS w3 a1 ln c1' L := sls_own (by simpa using hown2) hHL.out
      have t1 := p5.gr hg3
      replace hsl := (hsl.gr hg2).gr hg3
      replace hk := (hk.gr hg2).gr hg3
      replace c1 := cell_gr c1 hg3
      replace c2 := cell_gr c2 hg3
      replace c3 := cell_gr c3 hg3
      replace hgr := hgr.trans hg3
      clear hl hg1 hg2 hg3 p5 p4 p3 hown2 hgrow2
      have hrow := tri_alloc w3 (.int .i64 W) (.int .i64 H) (.slice (some ⟨g1, 0, none⟩) n k1) 24
      obtain ⟨u1, hu1⟩ : ∃ u1, u1 = w3.alloc (.cells #[.int .i64 W, .int .i64 H, .slice (some ⟨g1, 0, none⟩) n k1] 24) := ⟨_, rfl⟩
      have hgu : Gr w3 u1 := hu1 ▸ (Gr.refl w3).alloc _
      obtain ⟨BX, hBX⟩ : ∃ BX, BX = w3.heap.size := ⟨_, rfl⟩
      rw [← hu1, ← hBX] at hrow
      rw [← hu1, ← hBX]
      have HBX := hide hBX
      clear hu1 hBX
      go_cut [14] from 34 (fun v u => ∃ (W' H' : Int) (g' n' c' : Nat) (f' : Nat → Int) (a2 : Option Addr) (k2 c2 : Nat) (M' : List Sd), v = .slice a2 k2 c2 ∧ k2 ≤ 40 ∧ SlS u a2 k2 c2 M' ∧ Hid (a2 = none ∨ ∃ b o, a2 = some ⟨b, o, none⟩) ∧ u.rowIs BX 24 3 (tri (.int .i64 W') (.int .i64 H') (.slice (some ⟨g', 0, none⟩) n' c')) ∧ Sl u (some ⟨g', 0, none⟩) n' f' ∧ Gr w u)
      case first =>
        cases raw with
        | true =>
          go_wp2_with fail
          go_meet
          exact ⟨W, H, g1, n, k1, f, a1, ln, c1', L, rfl, by omega, s1.gr hgu, hide hpl1, hrow, t1.gr hgu, hgr.trans hgu⟩
        | false =>
          have hk3 := hide hk
          have g3 := hide hgr
          have hBu := hrow.lt
          replace c1 := cell_gr c1 hgu
          replace c2 := cell_gr c2 hgu
          replace c3 := cell_gr c3 hgu
          replace hsl := hsl.gr hgu
          go_wp2_with fail
          refine (madeTile_any x y a n cap f u1 hsl (by unfold maxLen; omega)).mono ?_
          rintro e u2 ⟨⟨gm, cm, N, rfl, hN, hown⟩, hgm⟩
          have hmay := made_may hsl.byte hN
          have hlo := hown.sl.2.2.1
          have hrow2 := row_gr hrow hgm
          obtain ⟨⟨r1, r2, r3⟩, hfz⟩ := row_tri9 hrow2
          clear c1 c2 c3 hsl hk hgr
          generalize withinF x 1 16 = W' at *
          generalize withinF y 1 16 = H' at *
          generalize madeF n f = f' at *
          have HN := hide hN
          have HMAY := hide hmay
          clear hN hmay
          have N1 := (mayTB_n HMAY.out).1
          have N2 := (mayTB_n HMAY.out).2.1
          have hkp : Kp (fun k => k = BX) u2 (((u2.setCell ⟨BX, 0, none⟩ (.int .i64 W')).setCell ⟨BX, 1, none⟩ (.int .i64 H')).setCell ⟨BX, 2, none⟩ (.slice (some ⟨gm, 0, none⟩) N cm)) := (((Kp.refl (fun k => k = BX) u2).set (p := ⟨BX, 0, none⟩) (.inl rfl) _).set (p := ⟨BX, 1, none⟩) (.inl rfl) _).set (p := ⟨BX, 2, none⟩) (.inl rfl) _
          have hg3u : Gr w3 (((u2.setCell ⟨BX, 0, none⟩ (.int .i64 W')).setCell ⟨BX, 1, none⟩ (.int .i64 H')).setCell ⟨BX, 2, none⟩ (.slice (some ⟨gm, 0, none⟩) N cm)) := (((hgu.trans hgm).set (p := ⟨BX, 0, none⟩) (by rw [HBX.out]; exact Nat.le_refl _) _).set (p := ⟨BX, 1, none⟩) (by rw [HBX.out]; exact Nat.le_refl _) _).set (p := ⟨BX, 2, none⟩) (by rw [HBX.out]; exact Nat.le_refl _) _
          have hrow3 : (((u2.setCell ⟨BX, 0, none⟩ (.int .i64 W')).setCell ⟨BX, 1, none⟩ (.int .i64 H')).setCell ⟨BX, 2, none⟩ (.slice (some ⟨gm, 0, none⟩) N cm)).rowIs BX 24 3 (tri (.int .i64 W') (.int .i64 H') (.slice (some ⟨gm, 0, none⟩) N cm)) := (((hrow2.set 0 _).set 1 _).set 2 _).congr (fun i hi => by rcases (by omega : i = 0 ∨ i = 1 ∨ i = 2) with rfl | rfl | rfl <;> rfl)
          have hslm := hkp.sl hown.sl.2.2.2.2 (by omega)
          clear hkp hown hrow hrow2 hlo hgm hgu
          go_upto_region 6 with fail
          clear r1 r2 r3 hfz
          generalize (((u2.setCell ⟨BX, 0, none⟩ (.int .i64 W')).setCell ⟨BX, 1, none⟩ (.int .i64 H')).setCell ⟨BX, 2, none⟩ (.slice (some ⟨gm, 0, none⟩) N cm)) = u3 at *
          obtain ⟨⟨r1, r2, r3⟩, -⟩ := row_tri9 hrow3
          have hk5 := hk3.out.gr hg3u
          go_region_held3 (fun u => u.cell? ⟨BX, 0, none⟩ = some (.int .i64 W') ∧ u.cell? ⟨BX, 1, none⟩ = some (.int .i64 H') ∧ u.cell? ⟨BX, 2, none⟩ = some (.slice (some ⟨gm, 0, none⟩) N cm) ∧ Gr u3 u) ((refine keep39 ⟨r1, r2, r3, Gr.refl _⟩ ?_; exact (by (repeat (first | (with_reducible exact Gr.refl _) | (with_reducible assumption) | (with_reducible refine Gr.alloc ?_ _) | (with_reducible refine Gr.drew ?_) | (with_reducible refine Gr.set ?_ (by dsimp only; omega) _) | (with_reducible refine Gr.trans ?_ (by with_reducible assumption)))); first | done | fail))) (first
            | (go_at_call 12; refine (few10_any ak m kc z _ (hk5.gr (by (repeat (first | (with_reducible exact Gr.refl _) | (with_reducible assumption) | (with_reducible refine Gr.alloc ?_ _) | (with_reducible refine Gr.drew ?_) | (with_reducible refine Gr.set ?_ (by dsimp only; omega) _) | (with_reducible refine Gr.trans ?_ (by with_reducible assumption)))); first | done | fail)) hkm.1 hkm.2 hkn).mono ?_; rintro e v3 ⟨⟨k, k24, kn, rfl, hki⟩, hgf⟩)
            | (go_at_call 11; refine (xseeds_any W' H' _ N cm f' ak k kc z _ (hslm.gr (by (repeat (first | (with_reducible exact Gr.refl _) | (with_reducible assumption) | (with_reducible refine Gr.alloc ?_ _) | (with_reducible refine Gr.drew ?_) | (with_reducible refine Gr.set ?_ (by dsimp only; omega) _) | (with_reducible refine Gr.trans ?_ (by with_reducible assumption)))); first | done | fail)) N1 (by omega) (hki.gr (by (repeat (first | (with_reducible exact Gr.refl _) | (with_reducible assumption) | (with_reducible refine Gr.alloc ?_ _) | (with_reducible refine Gr.drew ?_) | (with_reducible refine Gr.set ?_ (by dsimp only; omega) _) | (with_reducible refine Gr.trans ?_ (by with_reducible assumption)))); first | done | fail)) (by omega)).mono ?_; rintro e v4 ⟨⟨a6, c6, k6, M6, rfl, hk6, HM6, hown6⟩, hgs⟩; have hgf6 : Gr u3 v4 := (by (repeat (first | (with_reducible exact Gr.refl _) | (with_reducible assumption) | (with_reducible refine Gr.alloc ?_ _) | (with_reducible refine Gr.drew ?_) | (with_reducible refine Gr.set ?_ (by dsimp only; omega) _) | (with_reducible refine Gr.trans ?_ (by with_reducible assumption)))); first | done | fail)))
          go_wp2_with fail
          go_meet
          exact ⟨W', H', gm, N, cm, f', a6, k6, c6, M6, rfl, by omega, sls_own hown6 HM6.out.1, hide (plain_own hown6), row_gr hrow3 hgf6, hslm.gr hgf6, g3.out.trans (hg3u.trans hgf6)⟩
      case rest =>
        obtain ⟨W', H', g', n', c', f', a2, k2, cz2, M', rfl, hk2, s2, HPL, hrow2, hsl2, hgr2⟩ := hcut
        clear hrow hsl hk s1 t1 hgr hgu c1 c2 c3
        generalize wc = w5 at *
        obtain ⟨⟨r1, r2, r3⟩, -⟩ := row_tri9 hrow2
        clear hrow2
        cases hmay : mayS W' H' n' f' M' with
        | false =>
          have HMAY := hide hmay
          clear hmay
          go_wp2_with fail
          refine (field_no hsl2 s2 HMAY.out).mono ?_
          rintro e w6 ⟨rfl, hg6⟩
          obtain ⟨d1, d2, -, -⟩ := pair_at (pair_alloc w6 (.slice none 0 0) (.slice none 0 0) 33)
          have g7 : Gr w6 (w6.alloc (.cells #[.slice none 0 0, .slice none 0 0] 33)) := (Gr.refl w6).alloc _
          go_upto_region 8 with fail
          generalize (w6.alloc (.cells #[.slice none 0 0, .slice none 0 0] 33)) = w7 at *
          generalize w6.heap.size = BF at *
          have hg57 := hg6.trans g7
          replace r1 := cell_gr r1 hg57
          replace r2 := cell_gr r2 hg57
          replace r3 := cell_gr r3 hg57
          clear hg6 g7
          go_wp2_with fail
          refine (rmay8_any W' H' _ n' c' f' a2 k2 cz2 M' w7 (hsl2.gr hg57) (s2.gr hg57)).mono ?_
          rintro e w8 ⟨rfl, hg8⟩
          rw [HMAY.out]
          go_wp2_with fail
          refine (told10_any _).mono ?_
          rintro e w9 ⟨rfl, hg9⟩
          have hg79 := hg8.trans hg9
          replace d1 := cell_gr d1 hg79
          replace d2 := cell_gr d2 hg79
          go_wp2_with fail
          go_ret
          exact ⟨rfl, (hgr2.trans hg57).trans hg79⟩
        | true =>
          have HMAY := hide hmay
          obtain ⟨hm, hsd⟩ := sds_of hsl2.byte hmay
          have hn12 := tile_n hmay
          have hgph := gph_of hm hsl2.byte
          have HSD := hide hsd
          have HG := hide hgph
          clear hmay hsd hgph
          go_wp2_with fail
          refine (field_yes hsl2 s2 HPL.out HMAY.out HSD.out (by omega) (by omega) (by omega)).mono ?_
          rintro e w6 ⟨⟨gf, cf, gd, F, D, rfl, hfar, hdir, hsp, hD⟩, hg6⟩
          obtain ⟨d1, d2, -, -⟩ := pair_at (pair_alloc w6 (.slice (some ⟨gf, 0, none⟩) n' cf) (.slice (some ⟨gd, 0, none⟩) n' n') 33)
          have g7 : Gr w6 (w6.alloc (.cells #[.slice (some ⟨gf, 0, none⟩) n' cf, .slice (some ⟨gd, 0, none⟩) n' n'] 33)) := (Gr.refl w6).alloc _
          have hsf := hfar.sli.gr g7
          have hsg := hdir.sli.gr g7
          have HSP := hide hsp
          have HD := hide hD
          clear hsp hD hfar hdir
          go_upto_region 8 with fail
          generalize (w6.alloc (.cells #[.slice (some ⟨gf, 0, none⟩) n' cf, .slice (some ⟨gd, 0, none⟩) n' n'] 33)) = w7 at *
          generalize w6.heap.size = BF at *
          have hg57 := hg6.trans g7
          replace r1 := cell_gr r1 hg57
          replace r2 := cell_gr r2 hg57
          replace r3 := cell_gr r3 hg57
          clear hg6 g7
          go_wp2_with fail
          refine (rmay8_any W' H' _ n' c' f' a2 k2 cz2 M' w7 (hsl2.gr hg57) (s2.gr hg57)).mono ?_
          rintro e w8 ⟨rfl, hg8⟩
          rw [HMAY.out]
          have hg58 := hg57.trans hg8
          replace r1 := cell_gr r1 hg8
          replace r2 := cell_gr r2 hg8
          replace r3 := cell_gr r3 hg8
          replace d1 := cell_gr d1 hg8
          replace d2 := cell_gr d2 hg8
          replace hsf := hsf.gr hg8
          replace hsg := hsg.gr hg8
          clear hg57 hg8
          go_wp2_with fail
          go_region_held3 (fun u => u.cell? ⟨BX, 0, none⟩ = some (.int .i64 W') ∧ u.cell? ⟨BX, 1, none⟩ = some (.int .i64 H') ∧ u.cell? ⟨BX, 2, none⟩ = some (.slice (some ⟨g', 0, none⟩) n' c') ∧ u.cell? ⟨BF, 0, none⟩ = some (.slice (some ⟨gf, 0, none⟩) n' cf) ∧ u.cell? ⟨BF, 1, none⟩ = some (.slice (some ⟨gd, 0, none⟩) n' n') ∧ Gr w8 u)
            (first | exact ⟨r1, r2, r3, d1, d2, (Gr.refl w8).drew⟩ | exact ⟨cell_gr hS.1 hg9, cell_gr hS.2.1 hg9, cell_gr hS.2.2.1 hg9, cell_gr hS.2.2.2.1 hg9, cell_gr hS.2.2.2.2.1 hg9, hS.2.2.2.2.2.trans hg9⟩)
            (first
            | (go_at_call 8; have hS := ‹_ ∧ _ ∧ _ ∧ _ ∧ _ ∧ Gr _ _›; refine (told10_any _).mono ?_; rintro e v1 ⟨rfl, hg9⟩)
            | (go_at_call 16; have hS := ‹_ ∧ _ ∧ _ ∧ _ ∧ _ ∧ Gr _ _›; refine (rfield_any (hsl2.gr (hg58.trans hS.2.2.2.2.2)) hm (s2.gr (hg58.trans hS.2.2.2.2.2)) HSD.out (by omega)).mono ?_; rintro e v2 ⟨⟨g3, c3, a3, k3, F2, rfl, hfar2, hdir2, hsp2⟩, hg9⟩; have hFF : ∀ i, i < n' → F2 i = F i := fun i hi => hsp2.uniq HSP.out hi; have HF2 := hide (SlI.congr hfar2.sli (fun i hi => (hFF i hi).symm)); have HD2 := hide (SlI.congr hdir2 (fun i hi => (HD.out i hi).trans (dirF_congr HG.out hFF hi).symm)); clear hfar2 hdir2 hsp2 hFF)
            | (go_at_call 15; have hS := ‹_ ∧ _ ∧ _ ∧ _ ∧ _ ∧ Gr _ _›; refine (rsamef_any _ _ _ _ n' _ _ _ _ F D _ (hsf.gr hS.2.2.2.2.2) (hsg.gr hS.2.2.2.2.2) HF2.out HD2.out (by omega)).mono ?_; rintro e v3 ⟨rfl, hg9⟩))
          go_wp2_with fail
          go_ret
          exact ⟨rfl, ((hgr2.trans hg58).trans hS.2.2.2.2.2).trans hg9⟩
end Go.Proofs.Ytlnbolaaaahoaaa
