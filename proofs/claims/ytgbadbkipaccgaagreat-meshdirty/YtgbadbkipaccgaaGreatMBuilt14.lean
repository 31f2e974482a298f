/- A map of numbers, a grid of it, a mesh over it, as the statements make them. No condition. -/
import Derived.Test.YtgbadbkipaccgaaGreatMTold14
namespace Go.Proofs.YtgbadbkipaccgaaGreat
open Go.RowKit
set_option maxRecDepth 20000

/-- what 'built' makes -/
structure Blt (w w' : World) (W H : Int) (N gm cm : Nat) (F : Nat → Int) (p q gp c v B cc : Nat) : Prop where
  sl : Sl w' (some ⟨gm, 0, none⟩) N F
  far : ∀ b, (b = p ∨ b = q ∨ b = gp ∨ b = c ∨ b = v) → b ≠ gm
  cap : N ≤ cm ∧ cm ≤ maxLen
  may : mayM W H N F = true
  big : 1 ≤ N ∧ N ≤ 1600
  duo : Duo w w' p q gp c v B W H N cc F 1 (fun _ => 1) (fun _ => 255) (fun _ => 0) 0
theorem Duo.lower {a w0 w : World} {p q gp c v B : Nat} {W H : Int} {N cc : Nat} {f : Nat → Int} {ep : Int} {ver S mv : Nat → Int} {cnt : Int} (h : Duo w0 w p q gp c v B W H N cc f ep ver S mv cnt) (g : Gr a w0) : Duo a w p q gp c v B W H N cc f ep ver S mv cnt := by
  have s := g.size
  have k := h.ge
  exact ⟨h.ms, h.gd, h.lt, by omega, h.apt, g.trans h.gr, h.same, h.low⟩
/-- a store elsewhere -/
theorem Duo.else {P : Nat → Prop} {w0 w w' : World} {p q gp c v B : Nat} {W H : Int} {N cc : Nat} {f : Nat → Int} {ep : Int} {ver S mv : Nat → Int} {cnt : Int} (h : Duo w0 w p q gp c v B W H N cc f ep ver S mv cnt) (k : Kp P w w') (h1 : ∀ b, P b → b < B ∧ w0.heap.size ≤ b) (h2 : ∀ b, (b = p ∨ b = q ∨ b = gp ∨ b = c ∨ b = v) → ¬ P b) : Duo w0 w' p q gp c v B W H N cc f ep ver S mv cnt :=
  ⟨h.ms.kp k (fun b e => (h1 b e).1) (h2 p (.inl rfl)) (h2 q (.inr (.inl rfl))), h.gd.kp k (h2 gp (.inr (.inr (.inl rfl)))) (h2 c (.inr (.inr (.inr (.inl rfl))))) (h2 v (.inr (.inr (.inr (.inr rfl))))), h.lt, h.ge, h.apt, k.gr h.gr (fun b e => (h1 b e).2), h.same, h.low⟩

set_option maxHeartbeats 2000000 in
theorem built_any (x y : Int) (a : Option Addr) (n cap : Nat) (f : Nat → Int) (w : World) (h : Sl w a n f) (hn : n ≤ maxLen) :
    Calls Tryz.prog 8 #[.int .i64 x, .int .i64 y, .slice a n cap] w fun e w' => (∃ W H N gm cm F p q gp c v B cc, e = .returned (.tuple #[.agg #[.int .i64 W, .int .i64 H, .slice (some ⟨gm, 0, none⟩) N cm], .pointer (some ⟨gp, 0, none⟩), .pointer (some ⟨p, 0, none⟩)]) ∧ Blt w w' W H N gm cm F p q gp c v B cc) := by
  have hga : Gr w (w.alloc (.cells #[.int .i64 0, .int .i64 0, .slice none 0 0] 24)) := (Gr.refl w).alloc _
  have hbx := tri_alloc w (.int .i64 0) (.int .i64 0) (.slice none 0 0) 24
  go_enter Tryz.func8, Tryz.ntmps8
  go_wp2_with fail
  generalize (w.alloc (.cells #[.int .i64 0, .int .i64 0, .slice none 0 0] 24)) = u0 at *
  obtain ⟨r0, hr0⟩ : ∃ r0, w.heap.size = r0 := ⟨_, rfl⟩
  rw [hr0] at hbx ⊢
  refine (made_any x y a n cap f u0 (h.gr hga) hn).mono ?_
  rintro e w1 ⟨⟨gm, cm, N, rfl, hN, hown⟩, hg1⟩
  have hm := gmade_may h.byte hN
  have hNb := gmade_n hN
  generalize withinF x 1 40 = W at *
  generalize withinF y 1 40 = H at *
  generalize madeF n f = F at *
  have hBm := tri_alloc w1 (.int .i64 W) (.int .i64 H) (.slice (some ⟨gm, 0, none⟩) N cm) 24
  have hgm : Gr w1 (w1.alloc (.cells #[.int .i64 W, .int .i64 H, .slice (some ⟨gm, 0, none⟩) N cm] 24)) := (Gr.refl w1).alloc _
  obtain ⟨q1, q2, q3, q4, -⟩ := hown.sl
  have hsl := hown.sl.2.2.2.2.gr hgm
  have HM := hide hm
  have hb1 := hbx.lt
  replace hbx := row_gr hbx (hg1.trans hgm)
  have hgr := (hga.trans hg1).trans hgm
  have s1 := hg1.size
  clear hown hN hm hga hg1 hgm h hn
  go_wp2_with fail
  generalize (w1.alloc (.cells #[.int .i64 W, .int .i64 H, .slice (some ⟨gm, 0, none⟩) N cm] 24)) = u1 at *
  obtain ⟨B0, hB0⟩ : ∃ B0, w1.heap.size = B0 := ⟨_, rfl⟩
  rw [hB0] at hBm q4 s1 ⊢
  refine (gnew_yes W H _ N cm F 0 u1 hsl HM.out (by omega)).mono ?_
  rintro e w3 ⟨⟨gp, c, v, cc, rfl, hgd, hge⟩, hg3⟩
  have HN := hide (duo_new (w0 := u1) hgd hg3 hge (fun s _ => by omega) (by omega))
  replace hbx := row_gr hbx hg3
  replace hBm := row_gr hBm hg3
  clear hgd hge hg3
  go_wp2_with fail
  refine HN.out.mono ?_
  rintro e w4 ⟨⟨p, q, B, rfl, hD⟩, hg4⟩
  replace hbx := row_gr hbx hg4
  replace hBm := row_gr hBm hg4
  have HD := hide hD
  obtain ⟨c1, c2, c3, -, -, -⟩ := row_cells hBm
  obtain ⟨y1, y2, y3, y4, y5, y6⟩ := row_cells hbx
  obtain ⟨z1, z2, z3, -⟩ := row_cells (row_set3 (u0 := .int .i64 W) (u1 := .int .i64 H) (u2 := .slice (some ⟨gm, 0, none⟩) N cm) hbx)
  have hk := kp_set3 (S := fun b => b = r0) w4 (q := r0) (i := 0) (j := 1) (k := 2) rfl (.int .i64 W) (.int .i64 H) (.slice (some ⟨gm, 0, none⟩) N cm)
  have HK := hide hk
  clear hD HN hg4 hk
  go_wp2_with fail
  refine bodyPost_ret (v := .tuple #[.agg #[.int .i64 W, .int .i64 H, .slice (some ⟨gm, 0, none⟩) N cm], .pointer (some ⟨gp, 0, none⟩), .pointer (some ⟨p, 0, none⟩)]) (by simp [results, Tryz.results8, go_sem, z1, z2, z3]) rfl ?_
  have hD := HD.out
  have hge := hD.ge
  have hlt := hD.lt
  have hap := hD.ms.apart
  have hsz := hsl.at (by omega)
  have hgmu : gm < u1.heap.size := by
    obtain ⟨b', o', e', hb', -⟩ := hsz
    cases e'
    exact hb'
  refine ⟨W, H, N, gm, cm, F, p, q, gp, c, v, B, cc, rfl, HK.out.sl (hsl.gr hD.gr) (by omega), fun b e => by omega, ⟨q1, q2⟩, HM.out, hNb, (hD.lower hgr).else HK.out (fun b e => by omega) (fun b e => by omega)⟩
end Go.Proofs.YtgbadbkipaccgaaGreat
