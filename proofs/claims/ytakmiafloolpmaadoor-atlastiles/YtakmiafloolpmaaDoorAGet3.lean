/- What atlas.Get answers, of bytes in memory. -/
import Derived.Test.YtakmiafloolpmaaDoorAGet2
namespace Go.Proofs.YtakmiafloolpmaaDoor
open Go.RowKit
set_option maxRecDepth 20000

theorem readMap_any (a : Option Addr) (B cap : Nat) (b : Nat → Int) (ga : Nat → Addr) (w : World) (h : Sl w a B b) (hw : Glob w ga) (hc : B ≤ cap) (hcm : cap ≤ maxLen) (hB7 : B ≤ 1000000) :
    Calls Tryd.prog 42 #[.slice a B cap] w fun e w' => (∃ v, e = .returned v ∧ RdM w' B b v) ∧ Gr w w' := by
  by_cases h4 : B < 4
  · exact readMap_short a B cap b w h4
  cases hm : mayB (wOf b) (hOf b)
  · exact readMap_bad a B cap b w h hB7 (by omega) hm
  · exact readMap_yes a B cap b ga w h hw hc hcm hB7 (by omega) hm
/-- what Get answers -/
def GetsM (w : World) (B : Nat) (b : Nat → Int) (v : Value) : Prop :=
  ((getM B b).1 = 0 ∧ ∃ g N : Nat, v = .tuple #[.agg #[.int .i64 (wOf b), .int .i64 (hOf b), .slice (some ⟨g, 0, none⟩) N N], .int .i64 0] ∧ (N : Int) = wOf b * hOf b ∧ N ≤ 1048576 ∧ Sl w (some ⟨g, 0, none⟩) N (joinF (wOf b) (getM B b).2)) ∨
  ((getM B b).1 ≠ 0 ∧ v = .tuple #[.agg #[.int .i64 0, .int .i64 0, .slice none 0 0], .int .i64 (getM B b).1])
theorem acode_er (k : Int) (ev : Value) (ga : Nat → Addr) (w : World) (hw : Glob w ga) (h : Er w k ev) :
    Calls Tryd.prog 43 #[ev] w fun e w' => e = .returned (.int .i64 k) ∧ Gr w w' := by
  rcases h with ⟨rb, rfl, h⟩ | ⟨fb, rb, rfl, h1, h2⟩
  · exact acode_hit rb k ga w hw h
  · exact acode_wrap fb rb k ga w hw h1 h2
theorem Er.form {w : World} {k : Int} {v : Value} (h : Er w k v) : ∃ t p, v = .iface t p := by
  rcases h with ⟨rb, rfl, h⟩ | ⟨fb, rb, rfl, h1, h2⟩
  · exact ⟨_, _, rfl⟩
  · exact ⟨_, _, rfl⟩

set_option maxHeartbeats 4000000 in
theorem aget_any (a : Option Addr) (B cap : Nat) (b : Nat → Int) (ga : Nat → Addr) (w : World) (h : Sl w a B b) (hw : Glob w ga) (hc : B ≤ cap) (hcm : cap ≤ maxLen) (hB7 : B ≤ 1000000) :
    Calls Tryd.prog 23 #[.slice a B cap] w fun e w' => (∃ v, e = .returned v ∧ GetsM w' B b v) ∧ Gr w w' := by
  have q := readMap_any a B cap b ga (w.alloc (.cells #[.int .i64 0, .int .i64 0, .slice none 0 0] 24)) (h.gr ((Gr.refl w).alloc _)) (hw.gr ((Gr.refl w).alloc _)) hc hcm hB7
  have HQ := hide q
  have HT := hide (tri_alloc w (.int .i64 0) (.int .i64 0) (.slice none 0 0) 24)
  have HW := hide hw
  have HY := hide h.byte
  clear q hw h
  go_enter Tryd.func23, Tryd.ntmps23
  go_wp2_with fail
  refine HQ.out.mono ?_
  rintro e w1 ⟨⟨v, rfl, hv⟩, hg⟩
  have hgw := ((Gr.refl w).alloc _).trans hg
  have hz : w.heap.size < w1.heap.size := by have := hg.size; simp only [World.size_alloc] at this; omega
  rcases hv with ⟨hk, g, N, rfl, hN, hN6, hrow⟩ | ⟨hk, ev, rfl, her⟩
  · have hj : Hid (∀ i, i < N → 0 ≤ joinF (wOf b) (getM B b).2 i ∧ joinF (wOf b) (getM B b).2 i ≤ 255) := hide (fun i hi => by
      obtain ⟨-, -, -, q, -⟩ := getM_ok HY.out (ts := (getM B b).2) (Prod.ext hk rfl)
      have := q N hN i hi
      omega)
    have HK := hide hk
    have HN := hide hN
    have hsl := hrow.sl hj.out
    have hN1 : 1 ≤ N := by
      obtain ⟨hm, -⟩ := getM_ok HY.out (ts := (getM B b).2) (Prod.ext hk rfl)
      have := may_mul hm
      omega
    have t1 := row_gr HT.out hg
    obtain ⟨r0, r1, r2, j0, j1, j2⟩ := row_cells t1
    have hap := sl_apart hsl hN1 r0
    have HS := hide hsl
    have HT1 := hide t1
    clear hk hN hsl hrow t1
    go_wp2_with fail
    have T2 := tri_alloc w1 (.int .i64 (wOf b)) (.int .i64 (hOf b)) (.slice (some ⟨g, 0, none⟩) N N) 24
    have T1 := HT1.out.alloc (.cells #[.int .i64 (wOf b), .int .i64 (hOf b), .slice (some ⟨g, 0, none⟩) N N] 24)
    have S2 := HS.out.gr ((Gr.refl w1).alloc (.cells #[.int .i64 (wOf b), .int .i64 (hOf b), .slice (some ⟨g, 0, none⟩) N N] 24))
    have G2 : Gr w (w1.alloc (.cells #[.int .i64 (wOf b), .int .i64 (hOf b), .slice (some ⟨g, 0, none⟩) N N] 24)) := hgw.alloc _
    generalize (w1.alloc (.cells #[.int .i64 (wOf b), .int .i64 (hOf b), .slice (some ⟨g, 0, none⟩) N N] 24)) = u2 at *
    generalize hB : w1.heap.size = B1 at *
    obtain ⟨m0, m1, m2, -, -, -⟩ := row_cells T2
    have HT2 := hide T2
    have HT1' := hide T1
    have HS2 := hide S2
    clear T2 T1 S2 r0 r1 r2 j0 j1 j2
    go_region_with (go_at_call 43; refine (acode_nil _).mono ?_; rintro e w3 ⟨rfl, hg3⟩; obtain ⟨m0, m1, m2, -, -, -⟩ := row_cells (row_gr HT2.out ((Gr.refl _).drew.trans hg3)); obtain ⟨r0, r1, r2, j0, j1, j2⟩ := row_cells (row_gr HT1'.out ((Gr.refl _).drew.trans hg3)))
    all_goals
      go_wp2
      exact bodyPost_ret (v := .tuple #[.agg #[.int .i64 (wOf b), .int .i64 (hOf b), .slice (some ⟨g, 0, none⟩) N N], .int .i64 0]) (by simp [results, Tryd.results23, go_sem, r0, r1, r2]) rfl ⟨⟨_, rfl, .inl ⟨HK.out, g, N, rfl, HN.out, hN6, (((HS2.out.gr ((Gr.refl _).drew.trans hg3)).setF (p := ⟨w.heap.size, 0, none⟩) hap).setF (p := ⟨w.heap.size, 1, none⟩) hap).setF (p := ⟨w.heap.size, 2, none⟩) hap⟩⟩, gr_set3 (G2.drew.trans hg3) (Nat.le_refl _)⟩
  · obtain ⟨et, ep, rfl⟩ := her.form
    have t1 := row_gr HT.out hg
    obtain ⟨r0, r1, r2, j0, j1, j2⟩ := row_cells t1
    have HK := hide hk
    have HE := hide her
    have HT1 := hide t1
    clear hk her t1
    go_wp2_with fail
    have T2 := tri_alloc w1 (.int .i64 0) (.int .i64 0) (.slice none 0 0) 24
    have T1 := HT1.out.alloc (.cells #[.int .i64 0, .int .i64 0, .slice none 0 0] 24)
    have S2 := HE.out.gr ((Gr.refl w1).alloc (.cells #[.int .i64 0, .int .i64 0, .slice none 0 0] 24))
    have G2 : Gr w (w1.alloc (.cells #[.int .i64 0, .int .i64 0, .slice none 0 0] 24)) := hgw.alloc _
    generalize (w1.alloc (.cells #[.int .i64 0, .int .i64 0, .slice none 0 0] 24)) = u2 at *
    generalize hB : w1.heap.size = B1 at *
    obtain ⟨m0, m1, m2, -, -, -⟩ := row_cells T2
    have HT2 := hide T2
    have HT1' := hide T1
    have HS2 := hide S2
    clear T2 T1 S2 r0 r1 r2 j0 j1 j2
    go_region_with (go_at_call 43; refine (acode_er _ _ ga _ (HW.out.gr G2.drew) (HS2.out.gr (Gr.refl _).drew)).mono ?_; rintro e w3 ⟨rfl, hg3⟩; obtain ⟨m0, m1, m2, -, -, -⟩ := row_cells (row_gr HT2.out ((Gr.refl _).drew.trans hg3)); obtain ⟨r0, r1, r2, j0, j1, j2⟩ := row_cells (row_gr HT1'.out ((Gr.refl _).drew.trans hg3)))
    all_goals
      go_wp2
      exact bodyPost_ret (v := .tuple #[.agg #[.int .i64 0, .int .i64 0, .slice none 0 0], .int .i64 (getM B b).1]) (by simp [results, Tryd.results23, go_sem, r0, r1, r2]) rfl ⟨⟨_, rfl, .inr ⟨HK.out, rfl⟩⟩, gr_set3 (G2.drew.trans hg3) (Nat.le_refl _)⟩

end Go.Proofs.YtakmiafloolpmaaDoor
