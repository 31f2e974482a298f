/- PackLeast's walk: it answers true at every input; nothing that was there is written. -/
import Derived.Test.YtcbcekgjpcpibaaPAsks
namespace Go.Proofs.Ytcbcekgjpcpibaa
open Go.RowKit

theorem putL_bd {n : Nat} {f : Nat → Int} (h : 1 ≤ n) : 2 ≤ (putL n f).length ∧ (putL n f).length ≤ 1 + n := by
  have := cntF_pos (f := f) (i := 0) (n := n) (by omega)
  rw [putL_len]
  split
  · omega
  · split <;> omega
/-- x ahead of k -/
def allP (x : Int) (f : Nat → Int) (k i : Nat) : Int := if i < k then x else f i
theorem allP_up (x : Int) (f : Nat → Int) (k : Nat) : ∀ i, upd (allP x f k) k x i = allP x f (k + 1) i := by
  intro i
  unfold upd allP
  by_cases e : i = k
  · rw [if_pos e, if_pos (by omega)]
  · rw [if_neg e]
    by_cases l : i < k
    · rw [if_pos l, if_pos (by omega)]
    · rw [if_neg l, if_neg (by omega)]
theorem put_alike {n : Nat} (h : 1 ≤ n) (x : Int) : putL n (fun _ => x) = [0, x] ∧ formF n (fun _ => x) = 0 := by
  have := (cnt_one (n := n) (f := fun _ => x) (by omega)).2 (fun _ _ => rfl)
  unfold putL formF
  rw [if_pos this, if_pos this]
  exact ⟨rfl, rfl⟩
theorem may_alike {W H : Int} {n : Nat} {f : Nat → Int} (h : mayTB W H n f = true) {i : Nat} (hi : i < n) : mayTB W H n (fun _ => f i) = true := by
  obtain ⟨a, b, c, d⟩ := (mayTB_iff _ _ _ _).1 h
  exact (mayTB_iff _ _ _ _).2 ⟨a, b, c, fun _ _ => d i hi⟩
theorem two_sl (w : World) (x : Int) (hx : 0 ≤ x ∧ x ≤ 255) : Sl (w.alloc (.cells #[.int .u8 0, .int .u8 x] 5)) (some ⟨w.heap.size, 0, none⟩) 2 (fun i => [0, x].getD i 0) :=
  lit_sl w [0, x] (by intro y hy; simp only [List.mem_cons, List.not_mem_nil, or_false] at hy; rcases hy with rfl | rfl <;> omega) (by simp)

theorem put_all (W H : Int) (a : Option Addr) (n cap : Nat) (x : Int) (w : World) (h : Sl w a n (fun _ => x)) (hn : n ≤ cap) (hcap : cap ≤ maxLen) (hm : mayTB W H n (fun _ => x) = true) :
    Calls Try.prog 7 #[.agg #[.int .i64 W, .int .i64 H, .slice a n cap]] w fun e w' => (∃ g c, e = .returned (.tuple #[.slice (some ⟨g, 0, none⟩) 2 c, .int .i64 0]) ∧ Sl w' (some ⟨g, 0, none⟩) 2 (fun i => [0, x].getD i 0)) ∧ Gr w w' := by
  have q := put_yes W H a n cap _ w h hn hcap hm
  rw [(put_alike (mayTB_n hm).1 x).1] at q
  refine q.mono ?_
  rintro e w1 ⟨⟨g, c, rfl, h1⟩, hg⟩
  exact ⟨⟨g, c, rfl, h1.sl.2.2.2.2⟩, hg⟩
theorem form_all (W H : Int) (a : Option Addr) (n cap : Nat) (x : Int) (w : World) (h : Sl w a n (fun _ => x)) (hn : n ≤ cap) (hcap : cap ≤ maxLen) (hm : mayTB W H n (fun _ => x) = true) :
    Calls Try.prog 9 #[.agg #[.int .i64 W, .int .i64 H, .slice a n cap]] w fun e w' => e = .returned (.int .i64 0) ∧ Gr w w' := by
  have q := form_yes W H a n cap _ w h hn hcap hm
  rw [(put_alike (mayTB_n hm).1 x).2] at q
  exact q

theorem keep7 {w5 u u' : World} {B C D : Nat} {v0 v1 v2 v3 v4 v5 v6 : Value} (h : u.cell? ⟨B, 0, none⟩ = some v0 ∧ u.cell? ⟨B, 1, none⟩ = some v1 ∧ u.cell? ⟨B, 2, none⟩ = some v2 ∧ u.cell? ⟨C, 0, none⟩ = some v3 ∧ u.cell? ⟨C, 1, none⟩ = some v4 ∧ u.cell? ⟨C, 2, none⟩ = some v5 ∧ u.cell? ⟨D, 0, none⟩ = some v6 ∧ Gr w5 u) (g : Gr u u') :
    u'.cell? ⟨B, 0, none⟩ = some v0 ∧ u'.cell? ⟨B, 1, none⟩ = some v1 ∧ u'.cell? ⟨B, 2, none⟩ = some v2 ∧ u'.cell? ⟨C, 0, none⟩ = some v3 ∧ u'.cell? ⟨C, 1, none⟩ = some v4 ∧ u'.cell? ⟨C, 2, none⟩ = some v5 ∧ u'.cell? ⟨D, 0, none⟩ = some v6 ∧ Gr w5 u' :=
  ⟨cell_gr h.1 g, cell_gr h.2.1 g, cell_gr h.2.2.1 g, cell_gr h.2.2.2.1 g, cell_gr h.2.2.2.2.1 g, cell_gr h.2.2.2.2.2.1 g, cell_gr h.2.2.2.2.2.2.1 g, h.2.2.2.2.2.2.2.trans g⟩

set_option maxHeartbeats 3000000 in
theorem packLeast_any (a : Option Addr) (n cap : Nat) (f : Nat → Int) (x y few at_ : Int) (w : World) (h : Sl w a n f) (hn : n ≤ maxLen) :
    Calls Try.prog 4 #[.slice a n cap, .int .i64 x, .int .i64 y, .int .i64 few, .int .i64 at_] w fun e w' => e = .returned (.bool true) ∧ Gr w w' := by
  go_enter Try.func4, Try.ntmps4
  go_wp2_with fail
  refine (near_made _ _ _ _ _ f _ _ _ _ h hn).mono ?_
  rintro e w1 ⟨⟨g, c', N, F, W, H, rfl, hown, hm⟩, hg1⟩
  obtain ⟨q1, q2, -, -, hsl⟩ := hown.sl
  obtain ⟨n1, n2, -, -⟩ := mayTB_n hm
  obtain ⟨c1, c2, c3⟩ := tri_at3 (w1 := w1) (W := W) (H := H) (v := .slice (some ⟨g, 0, none⟩) N c') (t := 24)
  replace hsl := hsl.gr ((Gr.refl w1).alloc (.cells #[.int .i64 W, .int .i64 H, .slice (some ⟨g, 0, none⟩) N c'] 24))
  have hgr : Gr w (w1.alloc (.cells #[.int .i64 W, .int .i64 H, .slice (some ⟨g, 0, none⟩) N c'] 24)) := (by repeat (first | exact Gr.refl _ | assumption | exact Dr.gr (by assumption) | refine Gr.alloc ?_ _ | refine Gr.drewN ?_ _ | refine Gr.drew ?_ | refine Gr.trans ?_ (by assumption) | refine Gr.trans ?_ (Dr.gr (by assumption))))
  clear hown hg1
  go_wp2_with fail
  generalize (w1.alloc (.cells #[.int .i64 W, .int .i64 H, .slice (some ⟨g, 0, none⟩) N c'] 24)) = u0 at *
  generalize w1.heap.size = B at *
  refine (put_yes _ _ _ _ _ F _ hsl q1 q2 hm).mono ?_
  rintro e w2 ⟨⟨g2, k2, rfl, ho2⟩, hg2⟩
  replace c1 := cell_gr c1 hg2
  replace c2 := cell_gr c2 hg2
  replace c3 := cell_gr c3 hg2
  have hLb := putL_bd (f := F) n1
  have b0 := ho2.cellAt (i := 0) (by omega)
  rw [putL_head] at b0
  have fb := formF_cases N F
  have hf9 := fun u (hg : Gr u0 u) => form_yes W H (some ⟨g, 0, none⟩) N c' F u (hsl.gr hg) q1 q2 hm
  clear ho2
  obtain ⟨l, hl⟩ : ∃ l : Nat, l = (withinF at_ 0 ((N : Int) - 1)).toNat := ⟨_, rfl⟩
  have lb := within_bd at_ 0 ((N : Int) - 1) (by omega)
  have hl2 : withinF at_ 0 ((N : Int) - 1) = l := by omega
  have hlN : l < N := by omega
  have hma := may_alike hm hlN
  have hcl : w2.cell? ⟨g, l, none⟩ = some (.int .u8 (F l)) := by
    obtain ⟨b', o', e, _, hc⟩ := (hsl.gr hg2).at (by omega)
    cases e
    have := hc l hlN
    rwa [Nat.zero_add] at this
  have hbl := hsl.byte l hlN
  generalize putL N F = L at *
  generalize formF N F = fm at *
  have HF := hide hf9
  clear hf9
  have wN : IntKind.i64.wrap ((N : Int) - 1) = (N : Int) - 1 := wrapI (by omega)
  have HL2 := hide hl2
  clear hl hl2 lb
  go_wp2_with fail
  go_region_held3 (fun u => u.cell? ⟨B, 0, none⟩ = some (.int .i64 W) ∧ u.cell? ⟨B, 1, none⟩ = some (.int .i64 H) ∧ u.cell? ⟨B, 2, none⟩ = some (.slice (some ⟨g, 0, none⟩) N c') ∧ u.cell? ⟨g, l, none⟩ = some (.int .u8 (F l)) ∧ Gr u0 u) (first | exact ⟨c1, c2, c3, hcl, hg2.drew⟩ | exact hS) ((go_at_call 12; have hS := ‹_ ∧ _ ∧ _ ∧ _ ∧ Gr _ _›; refine (within_st _ _ _ _ (by omega) (by omega) (by omega)).mono ?_; rintro e w9 ⟨rfl, hw9⟩; subst hw9; rw [HL2.out]))
  obtain ⟨c1, c2, c3, -, hg3⟩ := hS
  replace b0 := cell_gr b0 (Gr.refl w2).drew
  clear hcl hg2
  obtain ⟨z, hz⟩ : ∃ z, z = F l := ⟨_, rfl⟩
  rw [← hz] at hma hbl ⊢
  clear hz
  generalize w2.drew = w3 at *
  go_wp2_with fail
  refine (ownTile_any _ _ _ _ _ F _ (hsl.gr hg3) (by omega) (by intro e; cases e)).mono ?_
  rintro e w4 ⟨⟨g3, k3, rfl, ho3⟩, hg4⟩
  obtain ⟨d1, d2, d3⟩ := tri_at3 (w1 := w4) (W := W) (H := H) (v := .slice (some ⟨g3, 0, none⟩) N k3) (t := 24)
  have hg5 : Gr w3 (w4.alloc (.cells #[.int .i64 W, .int .i64 H, .slice (some ⟨g3, 0, none⟩) N k3] 24)) := hg4.alloc _
  have hq3 := ho3.sl
  have ho4 := (ho3.gr ((Gr.refl w4).alloc (.cells #[.int .i64 W, .int .i64 H, .slice (some ⟨g3, 0, none⟩) N k3] 24))).congr (f' := allP z F 0) (fun i _ => by simp [allP])
  have hB3 : g3 ≠ w4.heap.size ∧ w3.heap.size ≤ g3 ∧ w3.heap.size ≤ w4.heap.size := by have := hg4.size; omega
  obtain ⟨s1, s2, -, -, -⟩ := hq3
  clear ho3 hg4
  go_wp2_with fail
  generalize (w4.alloc (.cells #[.int .i64 W, .int .i64 H, .slice (some ⟨g3, 0, none⟩) N k3] 24)) = u1 at *
  generalize w4.heap.size = C at *
  obtain ⟨B1, B2, B3⟩ := hB3
  have hgw := hgr.trans hg3
  go_loopw [16] (fun i u => ∃ k : Nat, k ≤ N ∧ i = .int .i64 k ∧ OwnB u w3.heap.size g3 N k3 (allP z F k) ∧ u.cell? ⟨C, 0, none⟩ = some (.int .i64 W) ∧ u.cell? ⟨C, 1, none⟩ = some (.int .i64 H) ∧ u.cell? ⟨C, 2, none⟩ = some (.slice (some ⟨g3, 0, none⟩) N k3) ∧ Gr w3 u) (fun i _ => N - (intOf i).toNat)
  case atStart => exact ⟨0, Nat.zero_le _, rfl, ho4, d1, d2, d3, hg5⟩
  case round =>
    clear d1 d2 d3 ho4
    obtain ⟨k, hk, rfl, ho, d1, d2, d3, hg6⟩ := hrel
    by_cases hlt : k < N
    · have dk := ho.cellAt (i := k) hlt
      have fk := ho.own.frozenAt k
      have HO := hide ho
      clear ho
      go_wp2
      go_roundw
      case rel =>
        have e1 := (HO.out.set k hbl).congr fun i _ => allP_up z F k i
        refine ⟨k + 1, by omega, by go_num, e1, ?_, ?_, ?_, hg6.set (p := ⟨g3, k, none⟩) B2 _⟩
        all_goals
          rw [World.cell?_setCell_far _ _ _ _ (by first | exact B1 | exact fun e => B1 e.symm)]
          assumption
      case measure => simp [intOf]; omega
    · have hkN : N = k := by omega
      subst hkN
      have ho1 := ho.congr (f' := fun _ => z) (fun i hi => by unfold allP; rw [if_pos (by omega)])
      have hs3 := ho1.sl.2.2.2.2
      clear ho ho1
      have wN1 : IntKind.i64.wrap (1 + (N : Int)) = 1 + (N : Int) := wrapI (by omega)
      have l1 : (L.length : Int) ≤ 1 + (N : Int) := by omega
      have l2 : 2 ≤ (L.length : Int) := by omega
      have l3 : 0 < (L.length : Int) := by omega
      have l4 : 0 < L.length := by omega
      have wfm : IntKind.i64.wrap fm = fm := wrapI (by omega)
      go_wp2_with fail
      refine (put_all _ _ _ _ _ z _ hs3 s1 s2 hma).mono ?_
      rintro e w5 ⟨⟨gd, kd, rfl, sd⟩, hg7⟩
      replace c1 := cell_gr c1 (hg6.trans hg7)
      replace c2 := cell_gr c2 (hg6.trans hg7)
      replace c3 := cell_gr c3 (hg6.trans hg7)
      replace b0 := cell_gr b0 (hg6.trans hg7)
      replace d1 := cell_gr d1 hg7
      replace d2 := cell_gr d2 hg7
      replace d3 := cell_gr d3 hg7
      have hs5 := hs3.gr hg7
      go_wp2_with fail
      go_region_held3 (fun u => u.cell? ⟨B, 0, none⟩ = some (.int .i64 W) ∧ u.cell? ⟨B, 1, none⟩ = some (.int .i64 H) ∧ u.cell? ⟨B, 2, none⟩ = some (.slice (some ⟨g, 0, none⟩) N c') ∧ u.cell? ⟨C, 0, none⟩ = some (.int .i64 W) ∧ u.cell? ⟨C, 1, none⟩ = some (.int .i64 H) ∧ u.cell? ⟨C, 2, none⟩ = some (.slice (some ⟨g3, 0, none⟩) N k3) ∧ u.cell? ⟨g2, 0, none⟩ = some (.int .u8 fm) ∧ Gr w5 u) (first | exact ⟨c1, c2, c3, d1, d2, d3, b0, (Gr.refl _).drew⟩ | exact keep7 hS hg9 | exact hS | exact keep7 ‹_› ((Gr.refl _).alloc _)) (first | (go_at_call 5; have hS := ‹_ ∧ _ ∧ _ ∧ _ ∧ _ ∧ _ ∧ _ ∧ Gr _ _›; refine (told3_any _).mono ?_; rintro e w9 ⟨rfl, hg9⟩) | (go_at_call 11; have hS := ‹_ ∧ _ ∧ _ ∧ _ ∧ _ ∧ _ ∧ _ ∧ Gr _ _›; refine (rbytes_any _ _ _ _ _ _ _ _ _ (sd.gr hS.2.2.2.2.2.2.2) (two_sl _ z hbl)).mono ?_; rintro e w9 ⟨rfl, hw9⟩; subst hw9; rw [sameB_refl]) | (go_at_call_of 9 (some (⟨g3, 0, none⟩ : Addr)); have hS := ‹_ ∧ _ ∧ _ ∧ _ ∧ _ ∧ _ ∧ _ ∧ Gr _ _›; refine (form_all _ _ _ _ _ z _ (hs5.gr hS.2.2.2.2.2.2.2) s1 s2 hma).mono ?_; rintro e w9 ⟨rfl, hg9⟩) | (go_at_call_of 9 (some (⟨g, 0, none⟩ : Addr)); have hS := ‹_ ∧ _ ∧ _ ∧ _ ∧ _ ∧ _ ∧ _ ∧ Gr _ _›; refine (HF.out _ (hg3.trans (hg6.trans (hg7.trans hS.2.2.2.2.2.2.2)))).mono ?_; rintro e w9 ⟨rfl, hg9⟩))
      have hSe := ‹_ ∧ _ ∧ _ ∧ _ ∧ _ ∧ _ ∧ _ ∧ Gr _ w9›
      have hge := hgw.trans (hg6.trans (hg7.trans hSe.2.2.2.2.2.2.2))
      clear hSe
      go_wp2
      go_ret
      exact ⟨ret_bool (by simp), hge⟩

end Go.Proofs.Ytcbcekgjpcpibaa
