/- TableTo's walk: it answers true at every input. No condition. -/
import Derived.Test.YtjgpcjlpdgedoaaCRTab12
import Derived.Test.YtjgpcjlpdgedoaaCTold12
import Derived.Deep.CutRange
namespace Go.Proofs.Ytjgpcjlpdgedoaa
open Go.RowKit
set_option maxRecDepth 20000

theorem row_tri12 {u : World} {p : Nat} {x y z : Value} (h : u.rowIs p 24 3 (tri x y z)) : (u.cell? ⟨p, 0, none⟩ = some x ∧ u.cell? ⟨p, 1, none⟩ = some y ∧ u.cell? ⟨p, 2, none⟩ = some z) ∧ ∀ i, u.frozen? ⟨p, i, none⟩ = false :=
  ⟨⟨h.cell (i := 0) (by omega), h.cell (i := 1) (by omega), h.cell (i := 2) (by omega)⟩, fun i => h.frozen i⟩
/-- a tile laid over another one, in its box -/
theorem box_over12 {u : World} {B : Nat} {x y z x' y' z' : Value} (h : u.rowIs B 24 3 (tri x y z)) : (((u.setCell ⟨B, 0, none⟩ x').setCell ⟨B, 1, none⟩ y').setCell ⟨B, 2, none⟩ z').rowIs B 24 3 (tri x' y' z') :=
  (((h.set 0 _).set 1 _).set 2 _).congr (fun i hi => by rcases (by omega : i = 0 ∨ i = 1 ∨ i = 2) with rfl | rfl | rfl <;> rfl)
theorem gr_over12 {w u : World} {B : Nat} {x y z : Value} (h : Gr w u) (hB : w.heap.size ≤ B) : Gr w (((u.setCell ⟨B, 0, none⟩ x).setCell ⟨B, 1, none⟩ y).setCell ⟨B, 2, none⟩ z) :=
  ((h.set (p := ⟨B, 0, none⟩) hB _).set (p := ⟨B, 1, none⟩) hB _).set (p := ⟨B, 2, none⟩) hB _
theorem kp_over12 {u : World} {B : Nat} {x y z : Value} : Kp (fun k => k = B) u (((u.setCell ⟨B, 0, none⟩ x).setCell ⟨B, 1, none⟩ y).setCell ⟨B, 2, none⟩ z) :=
  (((Kp.refl (fun k => k = B) u).set (p := ⟨B, 0, none⟩) (.inl rfl) _).set (p := ⟨B, 1, none⟩) (.inl rfl) _).set (p := ⟨B, 2, none⟩) (.inl rfl) _

set_option maxHeartbeats 8000000 in
theorem tableTo_any (W H : Int) (a : Option Addr) (n cap : Nat) (f : Nat → Int) (x y lo : Int) (raw : Bool) (w : World)
    (h : Sl w a n f) (hn : n ≤ maxLen) (ha : a = none → n = 0 ∧ cap = 0) :
    Calls Try.prog 4 #[.agg #[.int .i64 W, .int .i64 H, .slice a n cap], .int .i64 x, .int .i64 y, .int .i64 lo, .bool raw] w fun e w' => e = .returned (.bool true) ∧ Gr w w' := by
  unfold maxLen at hn
  obtain ⟨c1, c2, c3⟩ := tri_at w W H (.slice a n cap)
  have hg1 : Gr w (w.alloc (.cells #[.int .i64 W, .int .i64 H, .slice a n cap] 24)) := (Gr.refl w).alloc _
  go_enter Try.func4, Try.ntmps4
  go_upto_region 1 with fail
  generalize (w.alloc (.cells #[.int .i64 W, .int .i64 H, .slice a n cap] 24)) = w1 at *
  generalize w.heap.size = B0 at *
  have hsl := h.gr hg1
  clear h
  by_cases h6 : 600 < n
  · have h6i : (600 : Int) < (n : Int) := by omega
    go_wp2_with fail
    refine (told12_any _).mono ?_
    rintro e w2 ⟨rfl, hg2⟩
    go_wp2
    go_ret
    exact ⟨rfl, hg1.trans hg2⟩
  · have h6i : ¬ (600 : Int) < (n : Int) := by omega
    go_wp2_with fail
    refine (ownTile_any W H a n cap f w1 hsl (by omega) ha).mono ?_
    rintro e w2 ⟨⟨g1, k1, rfl, hown1⟩, hg2⟩
    obtain ⟨p1, p2, p3, p4, p5⟩ := hown1.sl
    clear hown1 h6i
    replace c1 := cell_gr c1 hg2
    replace c2 := cell_gr c2 hg2
    replace c3 := cell_gr c3 hg2
    replace hsl := hsl.gr hg2
    have hgr := hg1.trans hg2
    have hrow := tri_alloc w2 (.int .i64 W) (.int .i64 H) (.slice (some ⟨g1, 0, none⟩) n k1) 24
    obtain ⟨u1, hu1⟩ : ∃ u1, u1 = w2.alloc (.cells #[.int .i64 W, .int .i64 H, .slice (some ⟨g1, 0, none⟩) n k1] 24) := ⟨_, rfl⟩
    have hgu : Gr w2 u1 := hu1 ▸ (Gr.refl w2).alloc _
    obtain ⟨BX, hBX⟩ : ∃ BX, BX = w2.heap.size := ⟨_, rfl⟩
    rw [← hu1, ← hBX] at hrow
    go_upto_if 22 with fail
    rw [← hu1, ← hBX]
    have hBw : w.heap.size ≤ BX := by rw [hBX]; exact hgr.size
    clear hu1 hBX
    replace c1 := cell_gr c1 hgu
    replace c2 := cell_gr c2 hgu
    replace c3 := cell_gr c3 hgu
    replace hsl := hsl.gr hgu
    have t1 := p5.gr hgu
    replace hgr := hgr.trans hgu
    clear hg1 hg2 hgu p5 p4 p3
    go_cut [3] from 23 (fun v u => ∃ (W' H' : Int) (g' n' c' : Nat) (f' : Nat → Int) (l : Int), v = .int .i64 l ∧ n' ≤ 600 ∧ u.rowIs BX 24 3 (tri (.int .i64 W') (.int .i64 H') (.slice (some ⟨g', 0, none⟩) n' c')) ∧ Sl u (some ⟨g', 0, none⟩) n' f' ∧ Gr w u)
    case first =>
      cases raw with
      | true =>
        go_wp2_with fail
        go_meet
        exact ⟨W, H, g1, n, k1, f, lo, rfl, by omega, hrow, t1, hgr⟩
      | false =>
        go_wp2_with fail
        refine (madeTile_any x y a n cap f u1 hsl (by unfold maxLen; omega)).mono ?_
        rintro e u2 ⟨⟨gm, cm, N, rfl, hN, hown⟩, hgm⟩
        have hmay := made_may hsl.byte hN
        have hrow2 := row_gr hrow hgm
        have hlt := hrow.lt
        obtain ⟨⟨r1, r2, r3⟩, hfz⟩ := row_tri12 hrow2
        have hgr2 := hgr.trans hgm
        have N2 := (mayTB_n hmay).2.1
        clear c1 c2 c3 hsl hrow hgr
        generalize withinF x 1 16 = W' at *
        generalize withinF y 1 16 = H' at *
        generalize madeF n f = f' at *
        have hgr3 := gr_over12 (x := .int .i64 W') (y := .int .i64 H') (z := .slice (some ⟨gm, 0, none⟩) N cm) hgr2 hBw
        have hrow3 := box_over12 (x' := .int .i64 W') (y' := .int .i64 H') (z' := .slice (some ⟨gm, 0, none⟩) N cm) hrow2
        have hslm := (kp_over12 (u := u2) (B := BX) (x := .int .i64 W') (y := .int .i64 H') (z := .slice (some ⟨gm, 0, none⟩) N cm)).sl hown.sl.2.2.2.2 (by have := hown.sl.2.2.1; omega)
        clear hN hmay hown hrow2 hgm hgr2
        go_upto_region 6 with fail
        clear r1 r2 r3 hfz
        generalize (((u2.setCell ⟨BX, 0, none⟩ (.int .i64 W')).setCell ⟨BX, 1, none⟩ (.int .i64 H')).setCell ⟨BX, 2, none⟩ (.slice (some ⟨gm, 0, none⟩) N cm)) = u3 at *
        obtain ⟨⟨r1, r2, r3⟩, -⟩ := row_tri12 hrow3
        go_wp2_with fail
        refine (within_any lo (-1) (N : Int) _ (by omega) (by omega) (by omega)).mono ?_
        rintro e u4 ⟨rfl, hd4⟩
        go_wp2_with fail
        go_meet
        exact ⟨W', H', gm, N, cm, f', _, rfl, by omega, row_gr hrow3 hd4.gr, hslm.gr hd4.gr, hgr3.trans hd4.gr⟩
    case rest =>
      obtain ⟨W', H', g', n', c', f', l, rfl, hn6, hrow2, hsl2, hgr2⟩ := hcut
      generalize wc = u2 at *
      clear hrow t1 hsl hgr c1 c2 c3
      obtain ⟨⟨r1, r2, r3⟩, -⟩ := row_tri12 hrow2
      have hlb := may_goal (W := W') (H := H') (l := l) hsl2.byte
      cases hT : mayS W' H' n' f' (goalL l) with
      | false =>
        rw [hT] at hlb
        have HLB := hide hlb
        have hw1 : IntKind.i64.wrap ((n' : Int) - 1) = (n' : Int) - 1 := wrapI (by omega)
        clear hlb
        go_wp2_with fail
        refine (to_no hsl2 hT).mono ?_
        rintro e u3 ⟨rfl, hg3⟩
        replace r1 := cell_gr r1 hg3
        replace r2 := cell_gr r2 hg3
        replace r3 := cell_gr r3 hg3
        replace hsl2 := hsl2.gr hg3
        replace hgr2 := hgr2.trans hg3
        clear hT hg3
        go_wp2_with fail
        refine (rmayT_any W' H' _ n' c' f' _ hsl2).mono ?_
        rintro e u4 ⟨rfl, hg4⟩
        replace r1 := cell_gr r1 hg4
        replace r2 := cell_gr r2 hg4
        replace r3 := cell_gr r3 hg4
        replace hsl2 := hsl2.gr hg4
        replace hgr2 := hgr2.trans hg4
        clear hg4
        cases hm : mayTB W' H' n' f' with
        | false =>
          go_wp2_with fail
          refine (told12_any _).mono ?_
          rintro e u6 ⟨rfl, hg6⟩
          go_wp2_with fail
          go_ret
          exact ⟨rfl, hgr2.trans hg6⟩
        | true =>
          by_cases hin : 0 ≤ l ∧ l ≤ (n' : Int) - 1
          · obtain ⟨L, rfl⟩ : ∃ L : Nat, l = (L : Int) := ⟨l.toNat, (Int.toNat_of_nonneg hin.1).symm⟩
            have hLn : L < n' := by omega
            have hwall : f' L = 255 := by
              by_cases k : f' L = 255
              · exact k
              · have := HLB.out.2 ⟨hm, by omega, by omega, by rw [Int.toNat_natCast]; exact k⟩
                cases this
            obtain ⟨b, o, e, -, hc⟩ := hsl2.at (by omega)
            have e1 := hc L hLn
            cases e
            rw [hwall, Nat.zero_add] at e1
            have Li : (L : Int) < (n' : Int) := by omega
            have L0 : (0 : Int) ≤ (L : Int) := by omega
            clear hc hwall hm
            go_wp2_with fail
            refine (in_yes (L : Int) 0 ((n' : Int) - 1) _ (by omega) (by omega)).mono ?_
            rintro e u5 ⟨rfl, hd5⟩
            replace e1 := cell_gr e1 hd5.gr
            replace r1 := cell_gr r1 hd5.gr
            replace r2 := cell_gr r2 hd5.gr
            replace r3 := cell_gr r3 hd5.gr
            replace hgr2 := hgr2.trans hd5.gr
            clear hd5
            go_wp2_with fail
            refine (told12_any _).mono ?_
            rintro e u6 ⟨rfl, hg6⟩
            go_wp2_with fail
            go_ret
            exact ⟨rfl, hgr2.trans hg6⟩
          · go_wp2_with fail
            refine (in_no l 0 ((n' : Int) - 1) _ (by omega)).mono ?_
            rintro e u5 ⟨rfl, hd5⟩
            replace hgr2 := hgr2.trans hd5.gr
            clear hd5
            go_wp2_with fail
            refine (told12_any _).mono ?_
            rintro e u6 ⟨rfl, hg6⟩
            go_wp2_with fail
            go_ret
            exact ⟨rfl, hgr2.trans hg6⟩
      | true =>
        rw [hT] at hlb
        obtain ⟨hm, l0, ln, lw⟩ := hlb.1 rfl
        clear hlb hT
        obtain ⟨L, rfl⟩ : ∃ L : Nat, l = (L : Int) := ⟨l.toNat, (Int.toNat_of_nonneg l0).symm⟩
        rw [Int.toNat_natCast] at lw
        have hLn : L < n' := by omega
        have hw1 : IntKind.i64.wrap ((n' : Int) - 1) = (n' : Int) - 1 := wrapI (by omega)
        have hgph := gph_of hm hsl2.byte
        have HG := hide hgph
        clear hgph
        go_wp2_with fail
        refine (to_yes hsl2 hm hLn lw).mono ?_
        rintro e u3 ⟨⟨gd, cd, F, rfl, -, hfd, hcol⟩, hg3⟩
        have HCL := hide hcol
        replace r1 := cell_gr r1 hg3
        replace r2 := cell_gr r2 hg3
        replace r3 := cell_gr r3 hg3
        replace hsl2 := hsl2.gr hg3
        replace hgr2 := hgr2.trans hg3
        clear hg3 hcol
        go_wp2_with fail
        refine (rmayT_any W' H' _ n' c' f' _ hsl2).mono ?_
        rintro e u4 ⟨rfl, hg4⟩
        rw [hm]
        replace r1 := cell_gr r1 hg4
        replace r2 := cell_gr r2 hg4
        replace r3 := cell_gr r3 hg4
        replace hsl2 := hsl2.gr hg4
        replace hfd := hfd.gr hg4
        replace hgr2 := hgr2.trans hg4
        clear hg4
        have Li : (L : Int) < (n' : Int) := by omega
        have L0 : (0 : Int) ≤ (L : Int) := by omega
        go_wp2_with fail
        refine (in_yes (L : Int) 0 ((n' : Int) - 1) _ (by omega) (by omega)).mono ?_
        rintro e u5 ⟨rfl, hd5⟩
        replace r1 := cell_gr r1 hd5.gr
        replace r2 := cell_gr r2 hd5.gr
        replace r3 := cell_gr r3 hd5.gr
        replace hsl2 := hsl2.gr hd5.gr
        replace hfd := hfd.gr hd5.gr
        replace hgr2 := hgr2.trans hd5.gr
        clear hd5
        obtain ⟨b, o, e, -, hc⟩ := hsl2.at (by omega)
        have e1 := hc L hLn
        cases e
        rw [Nat.zero_add] at e1
        obtain ⟨q, hq⟩ : ∃ q, q = f' L := ⟨_, rfl⟩
        rw [← hq] at e1
        have hq5 : (q == 255) = false := by simp [hq, lw]
        clear hc
        go_wp2_with fail
        refine (told12_any _).mono ?_
        rintro e u6 ⟨rfl, hg6⟩
        replace r1 := cell_gr r1 hg6
        replace r2 := cell_gr r2 hg6
        replace r3 := cell_gr r3 hg6
        replace hsl2 := hsl2.gr hg6
        replace hfd := hfd.gr hg6
        replace hgr2 := hgr2.trans hg6
        have HSP := hide (rspread_goal (W := W') (H := H') (cap := c') hsl2 hm hLn lw (Gr.refl (u6.alloc (.cells #[.int .i64 (L : Int), .int .i64 4, .int .i64 0] 40))))
        clear hg6 e1 hq
        go_wp2_with fail
        refine HSP.out.mono ?_
        rintro e u7 ⟨⟨gs, cs, E, rfl, -, hfs, hsp⟩, hg7⟩
        have hE : ∀ i, i < n' → F i = E i := fun i hi => HCL.out.uniq hsp hi
        replace hfd := hfd.gr hg7
        replace hgr2 := hgr2.trans hg7
        have s1 := hfd.sli.same (g := E) (fun i hi => (hE i hi).symm)
        have s2 := hfs.sli
        clear hE hsp hg7 hsl2 hfd hfs r1 r2 r3
        go_wp2_with fail
        refine (ints_same _ _ n' _ _ E u7 s1 s2 (by omega)).mono ?_
        rintro e u8 ⟨rfl, hd8⟩
        go_wp2_with fail
        go_ret
        exact ⟨rfl, hgr2.trans hd8.gr⟩
end Go.Proofs.Ytjgpcjlpdgedoaa
