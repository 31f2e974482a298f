/- SpreadAsks' walk: it answers true at every input. No condition. -/
import Derived.Test.YtigoehoaplndiaaXIns9
import Derived.Test.YtigoehoaplndiaaXRef9
import Derived.Test.YtigoehoaplndiaaXFew9
import Derived.Test.YtigoehoaplndiaaSRow8
namespace Go.Proofs.Ytigoehoaplndiaa
open Go.RowKit
set_option maxRecDepth 20000

theorem row_tri9 {u : World} {p : Nat} {x y z : Value} (h : u.rowIs p 24 3 (tri x y z)) : (u.cell? ⟨p, 0, none⟩ = some x ∧ u.cell? ⟨p, 1, none⟩ = some y ∧ u.cell? ⟨p, 2, none⟩ = some z) ∧ ∀ i, u.frozen? ⟨p, i, none⟩ = false :=
  ⟨⟨h.cell (i := 0) (by omega), h.cell (i := 1) (by omega), h.cell (i := 2) (by omega)⟩, fun i => h.frozen i⟩
theorem keep39 {u0 u : World} {B : Nat} {x y z : Value} (h : u0.cell? ⟨B, 0, none⟩ = some x ∧ u0.cell? ⟨B, 1, none⟩ = some y ∧ u0.cell? ⟨B, 2, none⟩ = some z ∧ Gr u0 u0) (g : Gr u0 u) :
    u.cell? ⟨B, 0, none⟩ = some x ∧ u.cell? ⟨B, 1, none⟩ = some y ∧ u.cell? ⟨B, 2, none⟩ = some z ∧ Gr u0 u := ⟨cell_gr h.1 g, cell_gr h.2.1 g, cell_gr h.2.2.1 g, g⟩
theorem SlI.congr {w : World} {a : Option Addr} {n : Nat} {f g : Nat → Int} (h : SlI w a n f) (e : ∀ i, i < n → g i = f i) : SlI w a n g := by
  rcases h with h | ⟨b, o, ea, hb, hc⟩
  · exact .inl h
  · exact .inr ⟨b, o, ea, hb, fun i hi => by rw [e i hi]; exact hc i hi⟩
theorem tile_n {W H : Int} {n : Nat} {f : Nat → Int} {L : List Sd} (h : mayS W H n f L = true) : 1 ≤ n ∧ n ≤ 256 := by
  unfold mayS at h
  rw [Bool.and_eq_true] at h
  exact ⟨(mayTB_n h.1).1, (mayTB_n h.1).2.1⟩
set_option maxHeartbeats 16000000 in
theorem spreadAsks_any (W H : Int) (a : Option Addr) (n cap : Nat) (f : Nat → Int) (x y : Int) (ak : Option Addr) (m kc : Nat) (z : Nat → Int) (al : Option Addr) (ln lc : Nat) (L : List Sd) (raw : Bool) (w : World)
    (h : Sl w a n f) (hn : n ≤ maxLen) (ha : a = none → n = 0 ∧ cap = 0) (hk : SlI w ak m z) (hkm : m ≤ kc ∧ kc ≤ maxLen) (hkn : ak = none → m = 0 ∧ kc = 0) (hl : SlS w al ln lc L) :
    Calls Try.prog 3 #[.agg #[.int .i64 W, .int .i64 H, .slice a n cap], .int .i64 x, .int .i64 y, .slice ak m kc, .slice al ln lc, .bool raw] w fun e w' => e = .returned (.bool true) ∧ Gr w w' := by
  have hlm := hl.len.2
  unfold maxLen at hn
  have hlm2 : ln ≤ 9223372036854775807 := by
    have := hlm.2
    unfold maxLen at this
    omega
  obtain ⟨c1, c2, c3⟩ := tri_at w W H (.slice a n cap)
  have hg1 : Gr w (w.alloc (.cells #[.int .i64 W, .int .i64 H, .slice a n cap] 24)) := (Gr.refl w).alloc _
  go_enter Try.func3, Try.ntmps3
  go_upto_region 1 with fail
  generalize (w.alloc (.cells #[.int .i64 W, .int .i64 H, .slice a n cap] 24)) = w1 at *
  generalize w.heap.size = B0 at *
  have hsl := h.gr hg1
  replace hl := hl.gr hg1
  replace hk := hk.gr hg1
  clear h
  by_cases h6 : 600 < n
  · have h6i : (600 : Int) < (n : Int) := by omega
    go_wp2_with fail
    refine (told9_any _).mono ?_
    rintro e w2 ⟨rfl, hg2⟩
    go_wp2
    go_ret
    exact ⟨rfl, hg1.trans hg2⟩
  · have h6i : ¬ (600 : Int) < (n : Int) := by omega
    by_cases h40 : 40 < ln
    · have h40i : (40 : Int) < (ln : Int) := by omega
      go_wp2_with fail
      refine (told9_any _).mono ?_
      rintro e w2 ⟨rfl, hg2⟩
      go_wp2
      go_ret
      exact ⟨rfl, hg1.trans hg2⟩
    · have h40i : ¬ (40 : Int) < (ln : Int) := by omega
      go_wp2_with fail
      refine (ownTile_any W H a n cap f w1 hsl (by omega) ha).mono ?_
      rintro e w2 ⟨⟨g1, k1, rfl, hown1⟩, hg2⟩
      obtain ⟨p1, p2, p3, p4, p5⟩ := hown1.sl
      clear hown1 h6i h40i
      replace c1 := cell_gr c1 hg2
      replace c2 := cell_gr c2 hg2
      replace c3 := cell_gr c3 hg2
      replace hl := hl.gr hg2
      have h0l : 0 + ln = ln := Nat.zero_add ln
      have hgr := hg1.trans hg2
      have hHL := hide hl.len.1
      go_upto_if 39 with (at_builtin; refine wpList_seeds rfl (.tmp 35) (.tmp 36) rfl w2.heap.size _ 0 [] rfl (seeds_empty w2) al ln lc L rfl (hl.gr ((Gr.refl _).alloc _)) (by omega) h0l (by simp) ?_; intro a1 c1' w3 hown2 hgrow2)
      have hg3 : Gr w2 w3 := ((Gr.refl w2).alloc _).grown hgrow2 (fun b e => by cases e; exact Nat.le_refl _)
      have hpl1 := plain_own hown2
      have s1 : SlS w3 a1 ln c1' L := sls_own (by simpa using hown2) hHL.out
      have t1 := p5.gr hg3
      replace hsl := (hsl.gr hg2).gr hg3
      replace hk := (hk.gr hg2).gr hg3
      replace c1 := cell_gr c1 hg3
      replace c2 := cell_gr c2 hg3
      replace c3 := cell_gr c3 hg3
      replace hgr := hgr.trans hg3
      clear hl hg1 hg2 hg3 p5 p4 p3 hown2 hgrow2
      have hrow := tri_alloc w3 (.int .i64 W) (.int .i64 H) (.slice (some ⟨g1, 0, none⟩) n k1) 24
      obtain ⟨u1, hu1⟩ : ∃ u1, u1 = w3.alloc (.cells #[.int .i64 W, .int .i64 H, .slice (some ⟨g1, 0, none⟩) n k1] 24) := ⟨_, rfl⟩
      have hgu : Gr w3 u1 := hu1 ▸ (Gr.refl w3).alloc _
      obtain ⟨BX, hBX⟩ : ∃ BX, BX = w3.heap.size := ⟨_, rfl⟩
      rw [← hu1, ← hBX] at hrow
      rw [← hu1, ← hBX]
      have HBX := hide hBX
      clear hu1 hBX
      go_cut [14] from 40 (fun v u => ∃ (W' H' : Int) (g' n' c' : Nat) (f' : Nat → Int) (a2 : Option Addr) (k2 c2 : Nat) (M' : List Sd), v = .slice a2 k2 c2 ∧ k2 ≤ 40 ∧ SlS u a2 k2 c2 M' ∧ Hid (a2 = none ∨ ∃ b o, a2 = some ⟨b, o, none⟩) ∧ u.rowIs BX 24 3 (tri (.int .i64 W') (.int .i64 H') (.slice (some ⟨g', 0, none⟩) n' c')) ∧ Sl u (some ⟨g', 0, none⟩) n' f' ∧ Gr w u)
      case first =>
        cases raw with
        | true =>
          go_wp2_with fail
          go_meet
          exact ⟨W, H, g1, n, k1, f, a1, ln, c1', L, rfl, by omega, s1.gr hgu, hide hpl1, hrow, t1.gr hgu, hgr.trans hgu⟩
        | false =>
          have hk3 := hide hk
          have g3 := hide hgr
          have hBu := hrow.lt
          replace c1 := cell_gr c1 hgu
          replace c2 := cell_gr c2 hgu
          replace c3 := cell_gr c3 hgu
          replace hsl := hsl.gr hgu
          go_wp2_with fail
          refine (madeTile_any x y a n cap f u1 hsl (by unfold maxLen; omega)).mono ?_
          rintro e u2 ⟨⟨gm, cm, N, rfl, hN, hown⟩, hgm⟩
          have hmay := made_may hsl.byte hN
          have hlo := hown.sl.2.2.1
          have hrow2 := row_gr hrow hgm
          obtain ⟨⟨r1, r2, r3⟩, hfz⟩ := row_tri9 hrow2
          clear c1 c2 c3 hsl hk hgr
          generalize withinF x 1 16 = W' at *
          generalize withinF y 1 16 = H' at *
          generalize madeF n f = f' at *
          have HN := hide hN
          have HMAY := hide hmay
          clear hN hmay
          have N1 := (mayTB_n HMAY.out).1
          have N2 := (mayTB_n HMAY.out).2.1
          have hkp : Kp (fun k => k = BX) u2 (((u2.setCell ⟨BX, 0, none⟩ (.int .i64 W')).setCell ⟨BX, 1, none⟩ (.int .i64 H')).setCell ⟨BX, 2, none⟩ (.slice (some ⟨gm, 0, none⟩) N cm)) := (((Kp.refl (fun k => k = BX) u2).set (p := ⟨BX, 0, none⟩) (.inl rfl) _).set (p := ⟨BX, 1, none⟩) (.inl rfl) _).set (p := ⟨BX, 2, none⟩) (.inl rfl) _
          have hg3u : Gr w3 (((u2.setCell ⟨BX, 0, none⟩ (.int .i64 W')).setCell ⟨BX, 1, none⟩ (.int .i64 H')).setCell ⟨BX, 2, none⟩ (.slice (some ⟨gm, 0, none⟩) N cm)) := (((hgu.trans hgm).set (p := ⟨BX, 0, none⟩) (by rw [HBX.out]; exact Nat.le_refl _) _).set (p := ⟨BX, 1, none⟩) (by rw [HBX.out]; exact Nat.le_refl _) _).set (p := ⟨BX, 2, none⟩) (by rw [HBX.out]; exact Nat.le_refl _) _
          have hrow3 : (((u2.setCell ⟨BX, 0, none⟩ (.int .i64 W')).setCell ⟨BX, 1, none⟩ (.int .i64 H')).setCell ⟨BX, 2, none⟩ (.slice (some ⟨gm, 0, none⟩) N cm)).rowIs BX 24 3 (tri (.int .i64 W') (.int .i64 H') (.slice (some ⟨gm, 0, none⟩) N cm)) := (((hrow2.set 0 _).set 1 _).set 2 _).congr (fun i hi => by rcases (by omega : i = 0 ∨ i = 1 ∨ i = 2) with rfl | rfl | rfl <;> rfl)
          have hslm := hkp.sl hown.sl.2.2.2.2 (by omega)
          clear hkp hown hrow hrow2 hlo hgm hgu
          go_upto_region 6 with fail
          clear r1 r2 r3 hfz
          generalize (((u2.setCell ⟨BX, 0, none⟩ (.int .i64 W')).setCell ⟨BX, 1, none⟩ (.int .i64 H')).setCell ⟨BX, 2, none⟩ (.slice (some ⟨gm, 0, none⟩) N cm)) = u3 at *
          obtain ⟨⟨r1, r2, r3⟩, -⟩ := row_tri9 hrow3
          have hk5 := hk3.out.gr hg3u
          go_region_held3 (fun u => u.cell? ⟨BX, 0, none⟩ = some (.int .i64 W') ∧ u.cell? ⟨BX, 1, none⟩ = some (.int .i64 H') ∧ u.cell? ⟨BX, 2, none⟩ = some (.slice (some ⟨gm, 0, none⟩) N cm) ∧ Gr u3 u) ((refine keep39 ⟨r1, r2, r3, Gr.refl _⟩ ?_; exact (by (repeat (first | (with_reducible exact Gr.refl _) | (with_reducible assumption) | (with_reducible refine Gr.alloc ?_ _) | (with_reducible refine Gr.drew ?_) | (with_reducible refine Gr.set ?_ (by dsimp only; omega) _) | (with_reducible refine Gr.trans ?_ (by with_reducible assumption)))); first | done | fail))) (first
            | (go_at_call 12; refine (few9_any ak m kc z _ (hk5.gr (by (repeat (first | (with_reducible exact Gr.refl _) | (with_reducible assumption) | (with_reducible refine Gr.alloc ?_ _) | (with_reducible refine Gr.drew ?_) | (with_reducible refine Gr.set ?_ (by dsimp only; omega) _) | (with_reducible refine Gr.trans ?_ (by with_reducible assumption)))); first | done | fail)) hkm.1 hkm.2 hkn).mono ?_; rintro e v3 ⟨⟨k, k24, kn, rfl, hki⟩, hgf⟩)
            | (go_at_call 11; refine (xseeds_any W' H' _ N cm f' ak k kc z _ (hslm.gr (by (repeat (first | (with_reducible exact Gr.refl _) | (with_reducible assumption) | (with_reducible refine Gr.alloc ?_ _) | (with_reducible refine Gr.drew ?_) | (with_reducible refine Gr.set ?_ (by dsimp only; omega) _) | (with_reducible refine Gr.trans ?_ (by with_reducible assumption)))); first | done | fail)) N1 (by omega) (hki.gr (by (repeat (first | (with_reducible exact Gr.refl _) | (with_reducible assumption) | (with_reducible refine Gr.alloc ?_ _) | (with_reducible refine Gr.drew ?_) | (with_reducible refine Gr.set ?_ (by dsimp only; omega) _) | (with_reducible refine Gr.trans ?_ (by with_reducible assumption)))); first | done | fail)) (by omega)).mono ?_; rintro e v4 ⟨⟨a6, c6, k6, M6, rfl, hk6, HM6, hown6⟩, hgs⟩; have hgf6 : Gr u3 v4 := (by (repeat (first | (with_reducible exact Gr.refl _) | (with_reducible assumption) | (with_reducible refine Gr.alloc ?_ _) | (with_reducible refine Gr.drew ?_) | (with_reducible refine Gr.set ?_ (by dsimp only; omega) _) | (with_reducible refine Gr.trans ?_ (by with_reducible assumption)))); first | done | fail)))
          go_wp2_with fail
          go_meet
          exact ⟨W', H', gm, N, cm, f', a6, k6, c6, M6, rfl, by omega, sls_own hown6 HM6.out.1, hide (plain_own hown6), row_gr hrow3 hgf6, hslm.gr hgf6, g3.out.trans (hg3u.trans hgf6)⟩
      case rest =>
        obtain ⟨W', H', g', n', c', f', a2, k2, cz2, M', rfl, hk2, s2, HPL, hrow2, hsl2, hgr2⟩ := hcut
        clear hrow hsl hk s1 t1 hgr hgu c1 c2 c3
        generalize wc = w5 at *
        obtain ⟨⟨r1, r2, r3⟩, -⟩ := row_tri9 hrow2
        clear hrow2
        cases hmay : mayS W' H' n' f' M' with
        | false =>
          have HMAY := hide hmay
          clear hmay
          go_wp2_with fail
          refine (spread_no hsl2 s2 HMAY.out).mono ?_
          rintro e w6 ⟨rfl, hg6⟩
          replace r1 := cell_gr r1 hg6
          replace r2 := cell_gr r2 hg6
          replace r3 := cell_gr r3 hg6
          go_wp2_with fail
          refine (settled_no (hsl2.gr hg6) (s2.gr hg6) HMAY.out).mono ?_
          rintro e w7 ⟨rfl, hg7⟩
          replace r1 := cell_gr r1 hg7
          replace r2 := cell_gr r2 hg7
          replace r3 := cell_gr r3 hg7
          go_wp2_with fail
          refine (rmay8_any W' H' _ n' c' f' a2 k2 cz2 M' _ ((hsl2.gr hg6).gr hg7) ((s2.gr hg6).gr hg7)).mono ?_
          rintro e w8 ⟨rfl, hg8⟩
          rw [HMAY.out]
          go_wp2_with fail
          refine (told9_any _).mono ?_
          rintro e w9 ⟨rfl, hg9⟩
          go_wp2_with fail
          go_ret
          exact ⟨rfl, (((hgr2.trans hg6).trans hg7).trans hg8).trans hg9⟩
        | true =>
          have hn1 := (tile_n hmay).1
          have hn2 := (tile_n hmay).2
          obtain ⟨hm, hsd⟩ := sds_of hsl2.byte hmay
          obtain ⟨q, rfl⟩ : ∃ q, n' = q + 1 := ⟨n' - 1, by omega⟩
          have HMAY := hide hmay
          have HM := hide hm
          have HSD := hide hsd
          clear hmay hm hsd
          go_wp2_with fail
          refine (spread_yes hsl2 s2 HPL.out HMAY.out HSD.out (by omega) (by omega) (by omega)).mono ?_
          rintro e w6 ⟨⟨gf, cf, F1, rfl, -, hfar1, hsp1, -⟩, hg6⟩
          have HSP1 := hide hsp1
          clear hsp1
          replace r1 := cell_gr r1 hg6
          replace r2 := cell_gr r2 hg6
          replace r3 := cell_gr r3 hg6
          replace hsl2 := hsl2.gr hg6
          replace s2 := s2.gr hg6
          replace hgr2 := hgr2.trans hg6
          clear hg6
          go_wp2_with fail
          refine (settled_yes hsl2 s2 HPL.out HMAY.out HSD.out (by omega) (by omega) (by omega)).mono ?_
          rintro e w7 ⟨⟨ao, ko, co, F2, so, rfl, hsp2, hord, hso, hslo⟩, hg7⟩
          have HSP2 := hide hsp2
          have HORD := hide hord
          have HSO := hide hso
          clear hsp2 hord hso
          replace r1 := cell_gr r1 hg7
          replace r2 := cell_gr r2 hg7
          replace r3 := cell_gr r3 hg7
          replace hsl2 := hsl2.gr hg7
          replace s2 := s2.gr hg7
          replace hgr2 := hgr2.trans hg7
          replace hfar1 := hfar1.gr hg7
          clear hg7
          go_wp2_with fail
          refine (rmay8_any W' H' _ (q + 1) c' f' a2 k2 cz2 M' _ hsl2 s2).mono ?_
          rintro e w8 ⟨rfl, hg8⟩
          rw [HMAY.out]
          replace r1 := cell_gr r1 hg8
          replace r2 := cell_gr r2 hg8
          replace r3 := cell_gr r3 hg8
          replace hsl2 := hsl2.gr hg8
          replace s2 := s2.gr hg8
          replace hgr2 := hgr2.trans hg8
          replace hfar1 := hfar1.gr hg8
          replace hslo := hslo.gr hg8
          clear hg8
          go_wp2_with fail
          refine (rspread_any hsl2 HM.out s2 HSD.out (by omega)).mono ?_
          rintro e w9 ⟨⟨gw, cw, F, rfl, -, hfar, hsp⟩, hg9⟩
          have HE1 : Hid (∀ i, i < q + 1 → F i = F1 i) := hide (fun i hi => hsp.uniq HSP1.out hi)
          have HE2 : Hid (∀ i, i < q + 1 → F2 i = F i) := hide (fun i hi => HSP2.out.uniq hsp hi)
          replace hgr2 := hgr2.trans hg9
          have hI1 := ((hfar1.gr hg9).sli).congr (g := F) HE1.out
          have hIo := hslo.gr hg9
          have HFAR := hide hfar
          clear hsp hg9 hfar1 hslo hfar r1 r2 r3 s2 hsl2 HSP1 HSP2
          go_wp2_with fail
          go_loopw [20, 21] (fun ov cv u => ∃ (x m c1 : Nat) (a1 : Option Addr) (D : List Nat), cv = .int .i64 x ∧ ov = .slice a1 m c1 ∧ x ≤ q + 1 ∧ Hid (D.length = m ∧ OrdB F x D) ∧ u.ownsRow w9.heap.size 3 1 (.slice a1 m c1) m (flatN D) ∧ Gr w9 u) (fun _ cv _ => q + 1 - (intOf cv).toNat)
          case atStart => exact ⟨0, 0, 0, none, [], rfl, rfl, by omega, hide ⟨rfl, List.Pairwise.nil, fun y => by simp⟩, World.ownsRow_nil _ _ _ _, Gr.refl _⟩
          case round =>
            obtain ⟨x, m, c1, a1, D, rfl, rfl, hx, HD, hown, hg⟩ := hrel
            generalize wr = w1 at *
            by_cases hxn : x < q + 1
            · have hxi : (x : Int) < (q : Int) + 1 := by omega
              have hmx : m ≤ x := by have := HD.out.2.len; have := HD.out.1; omega
              obtain ⟨_, _, e1, sD⟩ := IlS.of_own hown HD.out.1
              cases e1
              have HO := hide hown
              clear hown
              go_wp2_with fail
              go_loopw [22] (fun i u => ∃ (t : Nat), t ≤ m ∧ i = .int .i64 t ∧ Hid (∀ j, j < t → F (D.getD j 0) ≤ F x) ∧ Gr w1 u) (fun i _ => m - (intOf i).toNat)
              case atStart => exact ⟨0, by omega, rfl, hide (fun j hj => absurd hj (Nat.not_lt_zero _)), Gr.refl _⟩
              case round =>
                obtain ⟨t, ht, rfl, HT, hg1⟩ := hrel
                generalize wr = w2 at *
                have hgw2 := hg.trans hg1
                have vx := (HFAR.out.gr hgw2).cell hxn
                obtain ⟨vc, hvc⟩ : ∃ vc, vc = F x := ⟨_, rfl⟩
                rw [← hvc] at vx
                have HVC := hide hvc
                clear hvc
                go_upto_region 17 with fail
                go_cut [110] from 93 to 112 (fun s u => s = .bool (decide (t < m ∧ F (D.getD t 0) ≤ F x)) ∧ Gr w2 u)
                case first =>
                  by_cases htm : t < m
                  · have htm2 : (t : Int) < (m : Int) := by omega
                    obtain ⟨B1, o1, rfl, hB1, hd⟩ := sD.at (by omega)
                    have y1 := cell_gr (hd t htm) hg1
                    have hmem : D.getD t 0 ∈ D := by
                      have hl := HD.out.1
                      rw [List.getD_eq_getElem?_getD, List.getElem?_eq_getElem (by omega)]
                      exact List.getElem_mem _
                    have hex := ((HD.out.2.2 _).1 hmem).1
                    obtain ⟨e, he⟩ : ∃ e, e = D.getD t 0 := ⟨_, rfl⟩
                    rw [← he] at y1 hex
                    have HE := hide he
                    clear he hmem hd
                    have hen : e < q + 1 := by omega
                    have hei : (e : Int) < (q : Int) + 1 := by omega
                    have he0 : (0 : Int) ≤ (e : Int) := by omega
                    have ve := (HFAR.out.gr hgw2).cell hen
                    obtain ⟨v1, hv1⟩ : ∃ v1, v1 = F e := ⟨_, rfl⟩
                    rw [← hv1] at ve
                    have HV1 := hide hv1
                    clear hv1
                    go_quiet (fail)
                    go_wp2_with fail
                    go_meet
                    exact ⟨by rw [← HE.out, ← HV1.out, ← HVC.out]; simp [htm], (Gr.refl _).drewN _⟩
                  · have htm2 : ¬ (t : Int) < (m : Int) := by omega
                    obtain rfl : t = m := by omega
                    go_quiet (fail)
                    go_wp2_with fail
                    go_meet
                    exact ⟨by simp, (Gr.refl _).drewN _⟩
                case rest =>
                  obtain ⟨rfl, hgc⟩ := hcut
                  generalize wc = w3 at *
                  replace hg1 := hg1.trans hgc
                  replace hgw2 := hgw2.trans hgc
                  replace vx := cell_gr vx hgc
                  clear hgc
                  by_cases hdo : t < m ∧ F (D.getD t 0) ≤ F x
                  · rw [decide_eq_true hdo]
                    have HDO := hide hdo
                    clear hdo
                    have htm := HDO.out.1
                    go_wp2_with fail
                    go_roundw
                    case rel =>
                      refine ⟨t + 1, htm, by go_num, hide (fun j hj => ?_), hg1⟩
                      rcases (by omega : j < t ∨ j = t) with k | rfl
                      · exact HT.out j k
                      · exact HDO.out.2
                    case measure => simp [intOf]; omega
                  · rw [decide_eq_false hdo]
                    have HDO := hide hdo
                    clear hdo
                    by_cases hinf : vc < 1099511627776
                    · have HINS : Hid (OrdB F (x + 1) (D.take t ++ x :: D.drop t)) := hide (HD.out.2.ins (by rw [← HVC.out]; exact hinf) (by rw [HD.out.1]; exact ht) HT.out (fun hp hle => HDO.out ⟨by rw [← HD.out.1]; exact hp, hle⟩))
                      have HLEN : Hid ((D.take t ++ x :: D.drop t).length = m + 1) := hide (by rw [List.length_append, List.length_cons, List.length_take, List.length_drop, HD.out.1]; omega)
                      go_upto_region 20 with fail
                      generalize w3 = w4 at *
                      have sD4 := sD.gr hg1
                      have hml := sD4.len
                      have htc : t ≤ c1 := by omega
                      have h0t : 0 + t = t := Nat.zero_add t
                      have hz0 : w4.heap.size < (w4.alloc (.cells #[] 3)).heap.size := by simp
                      rcases HO.out.2 with ⟨e, e0⟩ | ⟨g1, cap, cur, e, hbase, r⟩
                      · cases e
                        have sdr := sD4
                        have ht0 : t = 0 := by omega
                        subst ht0
                        rw [show D = D.drop 0 from rfl] at sdr
                        have SD := hide sD4
                        have SR := hide sdr
                        clear sD4 sdr
                        go_region_held3 (fun u => Gr w4 u) (exact (by (repeat (first | (with_reducible exact Gr.refl _) | (with_reducible assumption) | (with_reducible refine Gr.alloc ?_ _) | (with_reducible refine Gr.drew ?_) | (with_reducible refine Gr.set ?_ (by dsimp only; omega) _) | (with_reducible refine Gr.trans ?_ (by with_reducible assumption)))); first | done | fail)) (first | (refine step_ints rfl (.tmp 118) (.tmp 121) rfl w4.heap.size (.slice (some ⟨w4.heap.size, 0, none⟩) 0 0) 0 [] rfl (ints_empty' (v := w4) rfl (Nat.le_refl _) (by (repeat (first | (with_reducible exact Gr.refl _) | (with_reducible assumption) | (with_reducible refine Gr.alloc ?_ _) | (with_reducible refine Gr.drew ?_) | (with_reducible refine Gr.set ?_ (by dsimp only; omega) _) | (with_reducible refine Gr.trans ?_ (by with_reducible assumption)))); first | done | fail)) _ 0 0 (D.take 0) rfl ((SD.out.take (Nat.le_refl 0)).gr (by (repeat (first | (with_reducible exact Gr.refl _) | (with_reducible assumption) | (with_reducible refine Gr.alloc ?_ _) | (with_reducible refine Gr.drew ?_) | (with_reducible refine Gr.set ?_ (by dsimp only; omega) _) | (with_reducible refine Gr.trans ?_ (by with_reducible assumption)))); first | done | fail)) (by omega) (rfl : 0 + 0 = 0) (Gr.size (a := w4) (by (repeat (first | (with_reducible exact Gr.refl _) | (with_reducible assumption) | (with_reducible refine Gr.alloc ?_ _) | (with_reducible refine Gr.drew ?_) | (with_reducible refine Gr.set ?_ (by dsimp only; omega) _) | (with_reducible refine Gr.trans ?_ (by with_reducible assumption)))); first | done | fail)) ?_; intro a5 c5 w5 hown5 hgrow5; have hg5 : Gr w4 w5 := Gr.grown (by (repeat (first | (with_reducible exact Gr.refl _) | (with_reducible assumption) | (with_reducible refine Gr.alloc ?_ _) | (with_reducible refine Gr.drew ?_) | (with_reducible refine Gr.set ?_ (by dsimp only; omega) _) | (with_reducible refine Gr.trans ?_ (by with_reducible assumption)))); first | done | fail) hgrow5 (by intro k e; cases e; first | exact Nat.le_refl _ | exact Nat.le_succ _); (try have hone := IlS.kept (g := w4.heap.size) (ints_one' (v := w4.alloc (.cells #[] 3)) (b := w4.heap.size + 1) x (by simp) (by (repeat (first | (with_reducible exact Gr.refl _) | (with_reducible assumption) | (with_reducible refine Gr.alloc ?_ _) | (with_reducible refine Gr.drew ?_) | (with_reducible refine Gr.set ?_ (by dsimp only; omega) _) | (with_reducible refine Gr.trans ?_ (by with_reducible assumption)))); first | done | fail)) hgrow5 (by omega)); clear hgrow5) | (refine step_ints rfl (.tmp 118) (.tmp 121) rfl w4.heap.size (.slice (some ⟨w4.heap.size + 1, 0, none⟩) 0 0) 0 [] rfl (ints_empty' (v := w4.alloc (.cells #[.int .i64 (x : Int)] 3)) (by simp) (Nat.le_succ _) (by (repeat (first | (with_reducible exact Gr.refl _) | (with_reducible assumption) | (with_reducible refine Gr.alloc ?_ _) | (with_reducible refine Gr.drew ?_) | (with_reducible refine Gr.set ?_ (by dsimp only; omega) _) | (with_reducible refine Gr.trans ?_ (by with_reducible assumption)))); first | done | fail)) _ 0 0 (D.take 0) rfl ((SD.out.take (Nat.le_refl 0)).gr (by (repeat (first | (with_reducible exact Gr.refl _) | (with_reducible assumption) | (with_reducible refine Gr.alloc ?_ _) | (with_reducible refine Gr.drew ?_) | (with_reducible refine Gr.set ?_ (by dsimp only; omega) _) | (with_reducible refine Gr.trans ?_ (by with_reducible assumption)))); first | done | fail)) (by omega) (rfl : 0 + 0 = 0) (Gr.size (a := w4) (by (repeat (first | (with_reducible exact Gr.refl _) | (with_reducible assumption) | (with_reducible refine Gr.alloc ?_ _) | (with_reducible refine Gr.drew ?_) | (with_reducible refine Gr.set ?_ (by dsimp only; omega) _) | (with_reducible refine Gr.trans ?_ (by with_reducible assumption)))); first | done | fail)) ?_; intro a5 c5 w5 hown5 hgrow5; have hg5 : Gr w4 w5 := Gr.grown (by (repeat (first | (with_reducible exact Gr.refl _) | (with_reducible assumption) | (with_reducible refine Gr.alloc ?_ _) | (with_reducible refine Gr.drew ?_) | (with_reducible refine Gr.set ?_ (by dsimp only; omega) _) | (with_reducible refine Gr.trans ?_ (by with_reducible assumption)))); first | done | fail) hgrow5 (by intro k e; cases e; first | exact Nat.le_refl _ | exact Nat.le_succ _); (try have hone := IlS.kept (g := w4.heap.size + 1) (ints_one' (v := w4) (b := w4.heap.size) x rfl (by (repeat (first | (with_reducible exact Gr.refl _) | (with_reducible assumption) | (with_reducible refine Gr.alloc ?_ _) | (with_reducible refine Gr.drew ?_) | (with_reducible refine Gr.set ?_ (by dsimp only; omega) _) | (with_reducible refine Gr.trans ?_ (by with_reducible assumption)))); first | done | fail)) hgrow5 (by omega)); clear hgrow5) | (refine step_ints rfl (.tmp 122) (.tmp 124) rfl w4.heap.size _ 0 _ rfl (own_grI hown5 (by (repeat (first | (with_reducible exact Gr.refl _) | (with_reducible assumption) | (with_reducible refine Gr.alloc ?_ _) | (with_reducible refine Gr.drew ?_) | (with_reducible refine Gr.set ?_ (by dsimp only; omega) _) | (with_reducible refine Gr.trans ?_ (by with_reducible assumption)))); first | done | fail)) _ 1 1 [x] rfl (by first | exact hone.gr (by (repeat (first | (with_reducible exact Gr.refl _) | (with_reducible assumption) | (with_reducible refine Gr.alloc ?_ _) | (with_reducible refine Gr.drew ?_) | (with_reducible refine Gr.set ?_ (by dsimp only; omega) _) | (with_reducible refine Gr.trans ?_ (by with_reducible assumption)))); first | done | fail) | exact ints_one' (v := w5) x rfl (by (repeat (first | (with_reducible exact Gr.refl _) | (with_reducible assumption) | (with_reducible refine Gr.alloc ?_ _) | (with_reducible refine Gr.drew ?_) | (with_reducible refine Gr.set ?_ (by dsimp only; omega) _) | (with_reducible refine Gr.trans ?_ (by with_reducible assumption)))); first | done | fail)) (by omega) (N := 0 + 1) rfl (Gr.size (a := w4) (by (repeat (first | (with_reducible exact Gr.refl _) | (with_reducible assumption) | (with_reducible refine Gr.alloc ?_ _) | (with_reducible refine Gr.drew ?_) | (with_reducible refine Gr.set ?_ (by dsimp only; omega) _) | (with_reducible refine Gr.trans ?_ (by with_reducible assumption)))); first | done | fail)) ?_; intro a6 c6 w6 hown6 hgrow6; have hg6 : Gr w4 w6 := Gr.grown (by (repeat (first | (with_reducible exact Gr.refl _) | (with_reducible assumption) | (with_reducible refine Gr.alloc ?_ _) | (with_reducible refine Gr.drew ?_) | (with_reducible refine Gr.set ?_ (by dsimp only; omega) _) | (with_reducible refine Gr.trans ?_ (by with_reducible assumption)))); first | done | fail) hgrow6 (fun k e => (hown5.lt k e).1); clear hgrow6) | (refine step_ints rfl (.tmp 125) (.tmp 128) rfl w4.heap.size _ (0 + 1) _ rfl (own_grI hown6 (by (repeat (first | (with_reducible exact Gr.refl _) | (with_reducible assumption) | (with_reducible refine Gr.alloc ?_ _) | (with_reducible refine Gr.drew ?_) | (with_reducible refine Gr.set ?_ (by dsimp only; omega) _) | (with_reducible refine Gr.trans ?_ (by with_reducible assumption)))); first | done | fail)) _ 0 0 (D.drop 0) rfl (SR.out.gr (by (repeat (first | (with_reducible exact Gr.refl _) | (with_reducible assumption) | (with_reducible refine Gr.alloc ?_ _) | (with_reducible refine Gr.drew ?_) | (with_reducible refine Gr.set ?_ (by dsimp only; omega) _) | (with_reducible refine Gr.trans ?_ (by with_reducible assumption)))); first | done | fail)) (by omega) (N := 0 + 1) rfl (Gr.size (a := w4) (by (repeat (first | (with_reducible exact Gr.refl _) | (with_reducible assumption) | (with_reducible refine Gr.alloc ?_ _) | (with_reducible refine Gr.drew ?_) | (with_reducible refine Gr.set ?_ (by dsimp only; omega) _) | (with_reducible refine Gr.trans ?_ (by with_reducible assumption)))); first | done | fail)) ?_; intro a7 c7 w7 hown7 hgrow7; have hg7 : Gr w4 w7 := Gr.grown (by (repeat (first | (with_reducible exact Gr.refl _) | (with_reducible assumption) | (with_reducible refine Gr.alloc ?_ _) | (with_reducible refine Gr.drew ?_) | (with_reducible refine Gr.set ?_ (by dsimp only; omega) _) | (with_reducible refine Gr.trans ?_ (by with_reducible assumption)))); first | done | fail) hgrow7 (fun k e => (hown6.lt k e).1); clear hgrow7))
                        all_goals
                          go_wp2_with fail
                          go_roundw
                          case rel => exact ⟨x + 1, 0 + 1, c7, a7, _, by go_num, rfl, by omega, hide ⟨HLEN.out, HINS.out⟩, (by rw [← flatN3]; exact own_baseI hown7 (Gr.size hgw2)), hgw2.trans hg7⟩
                          case measure => simp [intOf]; omega
                      · cases e
                        clear r
                        by_cases hct : c1 = t
                        · have sdr : IlS w4 (some ⟨g1, 0, none⟩) (m - t) (c1 - t) (D.drop t) := .inr ⟨_, rfl, by rw [List.length_drop, HD.out.1], by omega, by omega, .inl (by omega)⟩
                          have hct' : (c1 = t) = True := eq_true hct
                          clear hct
                          go_region_held3 (fun u => Gr w4 u) (exact (by (repeat (first | (with_reducible exact Gr.refl _) | (with_reducible assumption) | (with_reducible refine Gr.alloc ?_ _) | (with_reducible refine Gr.drew ?_) | (with_reducible refine Gr.set ?_ (by dsimp only; omega) _) | (with_reducible refine Gr.trans ?_ (by with_reducible assumption)))); first | done | fail)) (first | (refine step_ints rfl (.tmp 118) (.tmp 121) rfl w4.heap.size (.slice (some ⟨w4.heap.size, 0, none⟩) 0 0) 0 [] rfl (ints_empty' (v := w4) rfl (Nat.le_refl _) (by (repeat (first | (with_reducible exact Gr.refl _) | (with_reducible assumption) | (with_reducible refine Gr.alloc ?_ _) | (with_reducible refine Gr.drew ?_) | (with_reducible refine Gr.set ?_ (by dsimp only; omega) _) | (with_reducible refine Gr.trans ?_ (by with_reducible assumption)))); first | done | fail)) _ t c1 (D.take t) rfl ((sD4.take ht).gr (by (repeat (first | (with_reducible exact Gr.refl _) | (with_reducible assumption) | (with_reducible refine Gr.alloc ?_ _) | (with_reducible refine Gr.drew ?_) | (with_reducible refine Gr.set ?_ (by dsimp only; omega) _) | (with_reducible refine Gr.trans ?_ (by with_reducible assumption)))); first | done | fail)) (by omega) h0t (Gr.size (a := w4) (by (repeat (first | (with_reducible exact Gr.refl _) | (with_reducible assumption) | (with_reducible refine Gr.alloc ?_ _) | (with_reducible refine Gr.drew ?_) | (with_reducible refine Gr.set ?_ (by dsimp only; omega) _) | (with_reducible refine Gr.trans ?_ (by with_reducible assumption)))); first | done | fail)) ?_; intro a5 c5 w5 hown5 hgrow5; have hg5 : Gr w4 w5 := Gr.grown (by (repeat (first | (with_reducible exact Gr.refl _) | (with_reducible assumption) | (with_reducible refine Gr.alloc ?_ _) | (with_reducible refine Gr.drew ?_) | (with_reducible refine Gr.set ?_ (by dsimp only; omega) _) | (with_reducible refine Gr.trans ?_ (by with_reducible assumption)))); first | done | fail) hgrow5 (by intro k e; cases e; first | exact Nat.le_refl _ | exact Nat.le_succ _); (try have hone := IlS.kept (g := w4.heap.size) (ints_one' (v := w4.alloc (.cells #[] 3)) (b := w4.heap.size + 1) x (by simp) (by (repeat (first | (with_reducible exact Gr.refl _) | (with_reducible assumption) | (with_reducible refine Gr.alloc ?_ _) | (with_reducible refine Gr.drew ?_) | (with_reducible refine Gr.set ?_ (by dsimp only; omega) _) | (with_reducible refine Gr.trans ?_ (by with_reducible assumption)))); first | done | fail)) hgrow5 (by omega)); clear hgrow5) | (refine step_ints rfl (.tmp 118) (.tmp 121) rfl w4.heap.size (.slice (some ⟨w4.heap.size + 1, 0, none⟩) 0 0) 0 [] rfl (ints_empty' (v := w4.alloc (.cells #[.int .i64 (x : Int)] 3)) (by simp) (Nat.le_succ _) (by (repeat (first | (with_reducible exact Gr.refl _) | (with_reducible assumption) | (with_reducible refine Gr.alloc ?_ _) | (with_reducible refine Gr.drew ?_) | (with_reducible refine Gr.set ?_ (by dsimp only; omega) _) | (with_reducible refine Gr.trans ?_ (by with_reducible assumption)))); first | done | fail)) _ t c1 (D.take t) rfl ((sD4.take ht).gr (by (repeat (first | (with_reducible exact Gr.refl _) | (with_reducible assumption) | (with_reducible refine Gr.alloc ?_ _) | (with_reducible refine Gr.drew ?_) | (with_reducible refine Gr.set ?_ (by dsimp only; omega) _) | (with_reducible refine Gr.trans ?_ (by with_reducible assumption)))); first | done | fail)) (by omega) h0t (Gr.size (a := w4) (by (repeat (first | (with_reducible exact Gr.refl _) | (with_reducible assumption) | (with_reducible refine Gr.alloc ?_ _) | (with_reducible refine Gr.drew ?_) | (with_reducible refine Gr.set ?_ (by dsimp only; omega) _) | (with_reducible refine Gr.trans ?_ (by with_reducible assumption)))); first | done | fail)) ?_; intro a5 c5 w5 hown5 hgrow5; have hg5 : Gr w4 w5 := Gr.grown (by (repeat (first | (with_reducible exact Gr.refl _) | (with_reducible assumption) | (with_reducible refine Gr.alloc ?_ _) | (with_reducible refine Gr.drew ?_) | (with_reducible refine Gr.set ?_ (by dsimp only; omega) _) | (with_reducible refine Gr.trans ?_ (by with_reducible assumption)))); first | done | fail) hgrow5 (by intro k e; cases e; first | exact Nat.le_refl _ | exact Nat.le_succ _); (try have hone := IlS.kept (g := w4.heap.size + 1) (ints_one' (v := w4) (b := w4.heap.size) x rfl (by (repeat (first | (with_reducible exact Gr.refl _) | (with_reducible assumption) | (with_reducible refine Gr.alloc ?_ _) | (with_reducible refine Gr.drew ?_) | (with_reducible refine Gr.set ?_ (by dsimp only; omega) _) | (with_reducible refine Gr.trans ?_ (by with_reducible assumption)))); first | done | fail)) hgrow5 (by omega)); clear hgrow5) | (refine step_ints rfl (.tmp 122) (.tmp 124) rfl w4.heap.size _ t _ rfl (own_grI hown5 (by (repeat (first | (with_reducible exact Gr.refl _) | (with_reducible assumption) | (with_reducible refine Gr.alloc ?_ _) | (with_reducible refine Gr.drew ?_) | (with_reducible refine Gr.set ?_ (by dsimp only; omega) _) | (with_reducible refine Gr.trans ?_ (by with_reducible assumption)))); first | done | fail)) _ 1 1 [x] rfl (by first | exact hone.gr (by (repeat (first | (with_reducible exact Gr.refl _) | (with_reducible assumption) | (with_reducible refine Gr.alloc ?_ _) | (with_reducible refine Gr.drew ?_) | (with_reducible refine Gr.set ?_ (by dsimp only; omega) _) | (with_reducible refine Gr.trans ?_ (by with_reducible assumption)))); first | done | fail) | exact ints_one' (v := w5) x rfl (by (repeat (first | (with_reducible exact Gr.refl _) | (with_reducible assumption) | (with_reducible refine Gr.alloc ?_ _) | (with_reducible refine Gr.drew ?_) | (with_reducible refine Gr.set ?_ (by dsimp only; omega) _) | (with_reducible refine Gr.trans ?_ (by with_reducible assumption)))); first | done | fail)) (by omega) (N := t + 1) rfl (Gr.size (a := w4) (by (repeat (first | (with_reducible exact Gr.refl _) | (with_reducible assumption) | (with_reducible refine Gr.alloc ?_ _) | (with_reducible refine Gr.drew ?_) | (with_reducible refine Gr.set ?_ (by dsimp only; omega) _) | (with_reducible refine Gr.trans ?_ (by with_reducible assumption)))); first | done | fail)) ?_; intro a6 c6 w6 hown6 hgrow6; have hg6 : Gr w4 w6 := Gr.grown (by (repeat (first | (with_reducible exact Gr.refl _) | (with_reducible assumption) | (with_reducible refine Gr.alloc ?_ _) | (with_reducible refine Gr.drew ?_) | (with_reducible refine Gr.set ?_ (by dsimp only; omega) _) | (with_reducible refine Gr.trans ?_ (by with_reducible assumption)))); first | done | fail) hgrow6 (fun k e => (hown5.lt k e).1); clear hgrow6) | (refine step_ints rfl (.tmp 125) (.tmp 128) rfl w4.heap.size _ (t + 1) _ rfl (own_grI hown6 (by (repeat (first | (with_reducible exact Gr.refl _) | (with_reducible assumption) | (with_reducible refine Gr.alloc ?_ _) | (with_reducible refine Gr.drew ?_) | (with_reducible refine Gr.set ?_ (by dsimp only; omega) _) | (with_reducible refine Gr.trans ?_ (by with_reducible assumption)))); first | done | fail)) _ (m - t) (c1 - t) (D.drop t) rfl (sdr.gr (by (repeat (first | (with_reducible exact Gr.refl _) | (with_reducible assumption) | (with_reducible refine Gr.alloc ?_ _) | (with_reducible refine Gr.drew ?_) | (with_reducible refine Gr.set ?_ (by dsimp only; omega) _) | (with_reducible refine Gr.trans ?_ (by with_reducible assumption)))); first | done | fail)) (by omega) (N := m + 1) (by omega) (Gr.size (a := w4) (by (repeat (first | (with_reducible exact Gr.refl _) | (with_reducible assumption) | (with_reducible refine Gr.alloc ?_ _) | (with_reducible refine Gr.drew ?_) | (with_reducible refine Gr.set ?_ (by dsimp only; omega) _) | (with_reducible refine Gr.trans ?_ (by with_reducible assumption)))); first | done | fail)) ?_; intro a7 c7 w7 hown7 hgrow7; have hg7 : Gr w4 w7 := Gr.grown (by (repeat (first | (with_reducible exact Gr.refl _) | (with_reducible assumption) | (with_reducible refine Gr.alloc ?_ _) | (with_reducible refine Gr.drew ?_) | (with_reducible refine Gr.set ?_ (by dsimp only; omega) _) | (with_reducible refine Gr.trans ?_ (by with_reducible assumption)))); first | done | fail) hgrow7 (fun k e => (hown6.lt k e).1); clear hgrow7))
                          all_goals
                            go_wp2_with fail
                            go_roundw
                            case rel => exact ⟨x + 1, m + 1, c7, a7, _, by go_num, rfl, by omega, hide ⟨HLEN.out, HINS.out⟩, (by rw [← flatN3]; exact own_baseI hown7 (Gr.size hgw2)), hgw2.trans hg7⟩
                            case measure => simp [intOf]; omega
                        · have sdr := sD4.drop ht
                          rw [Nat.zero_add] at sdr
                          go_region_held3 (fun u => Gr w4 u) (exact (by (repeat (first | (with_reducible exact Gr.refl _) | (with_reducible assumption) | (with_reducible refine Gr.alloc ?_ _) | (with_reducible refine Gr.drew ?_) | (with_reducible refine Gr.set ?_ (by dsimp only; omega) _) | (with_reducible refine Gr.trans ?_ (by with_reducible assumption)))); first | done | fail)) (first | (refine step_ints rfl (.tmp 118) (.tmp 121) rfl w4.heap.size (.slice (some ⟨w4.heap.size, 0, none⟩) 0 0) 0 [] rfl (ints_empty' (v := w4) rfl (Nat.le_refl _) (by (repeat (first | (with_reducible exact Gr.refl _) | (with_reducible assumption) | (with_reducible refine Gr.alloc ?_ _) | (with_reducible refine Gr.drew ?_) | (with_reducible refine Gr.set ?_ (by dsimp only; omega) _) | (with_reducible refine Gr.trans ?_ (by with_reducible assumption)))); first | done | fail)) _ t c1 (D.take t) rfl ((sD4.take ht).gr (by (repeat (first | (with_reducible exact Gr.refl _) | (with_reducible assumption) | (with_reducible refine Gr.alloc ?_ _) | (with_reducible refine Gr.drew ?_) | (with_reducible refine Gr.set ?_ (by dsimp only; omega) _) | (with_reducible refine Gr.trans ?_ (by with_reducible assumption)))); first | done | fail)) (by omega) h0t (Gr.size (a := w4) (by (repeat (first | (with_reducible exact Gr.refl _) | (with_reducible assumption) | (with_reducible refine Gr.alloc ?_ _) | (with_reducible refine Gr.drew ?_) | (with_reducible refine Gr.set ?_ (by dsimp only; omega) _) | (with_reducible refine Gr.trans ?_ (by with_reducible assumption)))); first | done | fail)) ?_; intro a5 c5 w5 hown5 hgrow5; have hg5 : Gr w4 w5 := Gr.grown (by (repeat (first | (with_reducible exact Gr.refl _) | (with_reducible assumption) | (with_reducible refine Gr.alloc ?_ _) | (with_reducible refine Gr.drew ?_) | (with_reducible refine Gr.set ?_ (by dsimp only; omega) _) | (with_reducible refine Gr.trans ?_ (by with_reducible assumption)))); first | done | fail) hgrow5 (by intro k e; cases e; first | exact Nat.le_refl _ | exact Nat.le_succ _); (try have hone := IlS.kept (g := w4.heap.size) (ints_one' (v := w4.alloc (.cells #[] 3)) (b := w4.heap.size + 1) x (by simp) (by (repeat (first | (with_reducible exact Gr.refl _) | (with_reducible assumption) | (with_reducible refine Gr.alloc ?_ _) | (with_reducible refine Gr.drew ?_) | (with_reducible refine Gr.set ?_ (by dsimp only; omega) _) | (with_reducible refine Gr.trans ?_ (by with_reducible assumption)))); first | done | fail)) hgrow5 (by omega)); clear hgrow5) | (refine step_ints rfl (.tmp 118) (.tmp 121) rfl w4.heap.size (.slice (some ⟨w4.heap.size + 1, 0, none⟩) 0 0) 0 [] rfl (ints_empty' (v := w4.alloc (.cells #[.int .i64 (x : Int)] 3)) (by simp) (Nat.le_succ _) (by (repeat (first | (with_reducible exact Gr.refl _) | (with_reducible assumption) | (with_reducible refine Gr.alloc ?_ _) | (with_reducible refine Gr.drew ?_) | (with_reducible refine Gr.set ?_ (by dsimp only; omega) _) | (with_reducible refine Gr.trans ?_ (by with_reducible assumption)))); first | done | fail)) _ t c1 (D.take t) rfl ((sD4.take ht).gr (by (repeat (first | (with_reducible exact Gr.refl _) | (with_reducible assumption) | (with_reducible refine Gr.alloc ?_ _) | (with_reducible refine Gr.drew ?_) | (with_reducible refine Gr.set ?_ (by dsimp only; omega) _) | (with_reducible refine Gr.trans ?_ (by with_reducible assumption)))); first | done | fail)) (by omega) h0t (Gr.size (a := w4) (by (repeat (first | (with_reducible exact Gr.refl _) | (with_reducible assumption) | (with_reducible refine Gr.alloc ?_ _) | (with_reducible refine Gr.drew ?_) | (with_reducible refine Gr.set ?_ (by dsimp only; omega) _) | (with_reducible refine Gr.trans ?_ (by with_reducible assumption)))); first | done | fail)) ?_; intro a5 c5 w5 hown5 hgrow5; have hg5 : Gr w4 w5 := Gr.grown (by (repeat (first | (with_reducible exact Gr.refl _) | (with_reducible assumption) | (with_reducible refine Gr.alloc ?_ _) | (with_reducible refine Gr.drew ?_) | (with_reducible refine Gr.set ?_ (by dsimp only; omega) _) | (with_reducible refine Gr.trans ?_ (by with_reducible assumption)))); first | done | fail) hgrow5 (by intro k e; cases e; first | exact Nat.le_refl _ | exact Nat.le_succ _); (try have hone := IlS.kept (g := w4.heap.size + 1) (ints_one' (v := w4) (b := w4.heap.size) x rfl (by (repeat (first | (with_reducible exact Gr.refl _) | (with_reducible assumption) | (with_reducible refine Gr.alloc ?_ _) | (with_reducible refine Gr.drew ?_) | (with_reducible refine Gr.set ?_ (by dsimp only; omega) _) | (with_reducible refine Gr.trans ?_ (by with_reducible assumption)))); first | done | fail)) hgrow5 (by omega)); clear hgrow5) | (refine step_ints rfl (.tmp 122) (.tmp 124) rfl w4.heap.size _ t _ rfl (own_grI hown5 (by (repeat (first | (with_reducible exact Gr.refl _) | (with_reducible assumption) | (with_reducible refine Gr.alloc ?_ _) | (with_reducible refine Gr.drew ?_) | (with_reducible refine Gr.set ?_ (by dsimp only; omega) _) | (with_reducible refine Gr.trans ?_ (by with_reducible assumption)))); first | done | fail)) _ 1 1 [x] rfl (by first | exact hone.gr (by (repeat (first | (with_reducible exact Gr.refl _) | (with_reducible assumption) | (with_reducible refine Gr.alloc ?_ _) | (with_reducible refine Gr.drew ?_) | (with_reducible refine Gr.set ?_ (by dsimp only; omega) _) | (with_reducible refine Gr.trans ?_ (by with_reducible assumption)))); first | done | fail) | exact ints_one' (v := w5) x rfl (by (repeat (first | (with_reducible exact Gr.refl _) | (with_reducible assumption) | (with_reducible refine Gr.alloc ?_ _) | (with_reducible refine Gr.drew ?_) | (with_reducible refine Gr.set ?_ (by dsimp only; omega) _) | (with_reducible refine Gr.trans ?_ (by with_reducible assumption)))); first | done | fail)) (by omega) (N := t + 1) rfl (Gr.size (a := w4) (by (repeat (first | (with_reducible exact Gr.refl _) | (with_reducible assumption) | (with_reducible refine Gr.alloc ?_ _) | (with_reducible refine Gr.drew ?_) | (with_reducible refine Gr.set ?_ (by dsimp only; omega) _) | (with_reducible refine Gr.trans ?_ (by with_reducible assumption)))); first | done | fail)) ?_; intro a6 c6 w6 hown6 hgrow6; have hg6 : Gr w4 w6 := Gr.grown (by (repeat (first | (with_reducible exact Gr.refl _) | (with_reducible assumption) | (with_reducible refine Gr.alloc ?_ _) | (with_reducible refine Gr.drew ?_) | (with_reducible refine Gr.set ?_ (by dsimp only; omega) _) | (with_reducible refine Gr.trans ?_ (by with_reducible assumption)))); first | done | fail) hgrow6 (fun k e => (hown5.lt k e).1); clear hgrow6) | (refine step_ints rfl (.tmp 125) (.tmp 128) rfl w4.heap.size _ (t + 1) _ rfl (own_grI hown6 (by (repeat (first | (with_reducible exact Gr.refl _) | (with_reducible assumption) | (with_reducible refine Gr.alloc ?_ _) | (with_reducible refine Gr.drew ?_) | (with_reducible refine Gr.set ?_ (by dsimp only; omega) _) | (with_reducible refine Gr.trans ?_ (by with_reducible assumption)))); first | done | fail)) _ (m - t) (c1 - t) (D.drop t) rfl (sdr.gr (by (repeat (first | (with_reducible exact Gr.refl _) | (with_reducible assumption) | (with_reducible refine Gr.alloc ?_ _) | (with_reducible refine Gr.drew ?_) | (with_reducible refine Gr.set ?_ (by dsimp only; omega) _) | (with_reducible refine Gr.trans ?_ (by with_reducible assumption)))); first | done | fail)) (by omega) (N := m + 1) (by omega) (Gr.size (a := w4) (by (repeat (first | (with_reducible exact Gr.refl _) | (with_reducible assumption) | (with_reducible refine Gr.alloc ?_ _) | (with_reducible refine Gr.drew ?_) | (with_reducible refine Gr.set ?_ (by dsimp only; omega) _) | (with_reducible refine Gr.trans ?_ (by with_reducible assumption)))); first | done | fail)) ?_; intro a7 c7 w7 hown7 hgrow7; have hg7 : Gr w4 w7 := Gr.grown (by (repeat (first | (with_reducible exact Gr.refl _) | (with_reducible assumption) | (with_reducible refine Gr.alloc ?_ _) | (with_reducible refine Gr.drew ?_) | (with_reducible refine Gr.set ?_ (by dsimp only; omega) _) | (with_reducible refine Gr.trans ?_ (by with_reducible assumption)))); first | done | fail) hgrow7 (fun k e => (hown6.lt k e).1); clear hgrow7))
                          all_goals
                            go_wp2_with fail
                            go_roundw
                            case rel => exact ⟨x + 1, m + 1, c7, a7, _, by go_num, rfl, by omega, hide ⟨HLEN.out, HINS.out⟩, (by rw [← flatN3]; exact own_baseI hown7 (Gr.size hgw2)), hgw2.trans hg7⟩
                            case measure => simp [intOf]; omega
                    · have HNO : Hid (OrdB F (x + 1) D) := hide (HD.out.2.no (by rw [← HVC.out]; exact hinf))
                      go_wp2_with fail
                      go_roundw
                      case rel => exact ⟨x + 1, m, c1, a1, D, by go_num, rfl, by omega, hide ⟨HD.out.1, HNO.out⟩, own_grI HO.out hg1, hgw2⟩
                      case measure => simp [intOf]; omega
            · obtain rfl : x = q + 1 := by omega
              have hxi : ¬ ((q + 1 : Nat) : Int) < ((q + 1 : Nat) : Int) := by omega
              have hsame : so = D := Ord.uniq HORD.out ⟨HD.out.2.1, HD.out.2.2⟩ HE2.out
              have hkm2 : ko = m := by rw [← HSO.out, hsame]; exact HD.out.1
              rw [flatN_cel, HD.out.1] at hown
              obtain ⟨_, _, e6, -, -, hsl6⟩ := SlI.of_own hown
              cases e6
              rw [hsame, hkm2] at hIo
              rw [hkm2]
              have hm1 : m ≤ 1000000 := by have := HD.out.2.len; have := HD.out.1; omega
              clear hsame hkm2 hown
              go_wp2_with fail
              refine (told9_any _).mono ?_
              rintro e v1 ⟨rfl, hgv1⟩
              go_wp2_with fail
              refine (ints_same _ _ (q + 1) _ _ F v1 ((hI1.gr hg).gr hgv1) (((HFAR.out.gr hg).gr hgv1).sli) (by omega)).mono ?_
              rintro e v2 ⟨rfl, hdv2⟩
              go_wp2_with fail
              refine (ints_same _ _ m _ _ (ordF D) v2 (((hIo.gr hg).gr hgv1).gr hdv2.gr) ((hsl6.gr hgv1).gr hdv2.gr) hm1).mono ?_
              rintro e v3 ⟨rfl, hdv3⟩
              go_wp2_with fail
              go_ret
              exact ⟨rfl, (((hgr2.trans hg).trans hgv1).trans hdv2.gr).trans hdv3.gr⟩
end Go.Proofs.Ytigoehoaplndiaa
