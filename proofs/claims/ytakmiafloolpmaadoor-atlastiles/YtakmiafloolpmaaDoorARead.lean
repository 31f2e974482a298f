/- What atlas.readTiles answers, of bytes in memory. -/
import Derived.Test.YtakmiafloolpmaaDoorATls
import Derived.Test.YtakmiafloolpmaaDoorAFault2
namespace Go.Proofs.YtakmiafloolpmaaDoor
open Go.RowKit
set_option maxRecDepth 20000

/-- what readTiles answers -/
def RdT (w : World) (base : Nat) (W H : Int) (B : Nat) (r : Int × List (List Int) × Nat) (v : Value) : Prop :=
  (r.1 = 0 ∧ ∃ tv ar cr g c, v = .tuple #[tv, .slice ar (B - r.2.2) cr, .nilIface] ∧ Tls w base tv W H r.2.1 g c) ∨
  (r.1 ≠ 0 ∧ ∃ fb rb, v = .tuple #[.slice none 0 0, .slice none 0 0, .iface 103 (.pointer (some ⟨fb, 0, none⟩))] ∧ w.cell? ⟨fb, 1, none⟩ = some (.iface 77 (.pointer (some ⟨rb, 0, none⟩))) ∧ w.cell? ⟨rb, 0, none⟩ = some (.int .i64 r.1))
theorem Sl.cut {w : World} {a : Option Addr} {n : Nat} {f : Nat → Int} (h : Sl w a n f) {a' : Option Addr} {k : Nat} (ha : k < n → ∀ b o, a = some ⟨b, o, none⟩ → a' = some ⟨b, o + k, none⟩) : Sl w a' (n - k) (fun i => f (k + i)) := by
  refine ⟨fun i hi => h.byte _ (by omega), ?_⟩
  by_cases hk : k < n
  · obtain ⟨b, o, rfl, hb, hc⟩ := h.at (by omega)
    exact .inr ⟨b, o + k, ha hk b o rfl, hb, fun i hi => by rw [Nat.add_assoc]; exact hc (k + i) (by omega)⟩
  · exact .inl (by omega)

set_option maxHeartbeats 4000000 in
theorem readTiles_any (W H : Int) (B : Nat) (b : Nat → Int) (a0 : Option Addr) (c0 : Nat) (ga : Nat → Addr) (w : World) (h : Sl w a0 (B - 4) (fun i => b (4 + i))) (hw : Glob w ga) (hb : ∀ i, i < B → 0 ≤ b i ∧ b i ≤ 255) (h4 : 4 ≤ B) (hc : B - 4 ≤ c0) (hcm : c0 ≤ maxLen) (hB7 : B ≤ 1000000) (hm : mayB W H = true) :
    Calls Tryd.prog 56 #[.slice a0 (B - 4) c0, .int .i64 W, .int .i64 H] w fun e w' => (∃ v, e = .returned v ∧ RdT w' w.heap.size W H B (rdS W H B b (cntS W H)) v) ∧ Gr w w' := by
  obtain ⟨i3, hi3, hy0, hy1, hy2⟩ := info_parts3 info_tile
  have hcn := cntS_eq hm
  have hci := cntS_int W H
  obtain ⟨C, hC⟩ : ∃ C, cntS W H = C := ⟨_, rfl⟩
  rw [hC] at hcn hci ⊢
  obtain ⟨hcn0, hcn1, hcn2⟩ := hcn
  have HCI := hide hci
  have HSZ := hide (fun (s : Nat) (u : World) (hs : s < C) => size_yes W H s u (sec_of (by omega)))
  have HTN := hide (fun s (hs : s < C) => tnF_eq (W := W) (H := H) (s := s) (sec_of (by omega)))
  have HSB := hide (fun s (hs : s < C) => size_bd (w := W) (h := H) (s := s) (sec_of (by omega)))
  have HOK := hide (fun s ts p (hs : s ≤ C) => rd_ok (W := W) (H := H) hb h4 s ts p (by omega))
  have HB := hide hb
  have HH := hide h
  have HW := hide hw
  unfold maxLen at hcm
  clear hci hcn0 hb h hw hC
  go_enter Tryd.func56, Tryd.ntmps56
  go_wp2_with (go_at_call 31; refine (asectors_any _ _ _).mono ?_; rintro e w1 ⟨rfl, hg1⟩; rw [← HCI.out])
  go_loopw [0, 6, 18] (fun bv tv i u => ∃ (s p : Nat) (ts : List (List Int)) (a' : Option Addr) (c' : Nat) (g c : Nat → Nat), s ≤ C ∧ i = .int .i64 s ∧ bv = .slice a' (B - p) c' ∧ rdS W H B b s = (0, ts, p) ∧ Sl w a' (B - p) (fun i => b (p + i)) ∧ B - p ≤ c' ∧ c' ≤ maxLen ∧ Tls u w.heap.size tv W H ts g c ∧ Gr w u) (fun _ _ i _ => C - (intOf i).toNat)
  case atStart => exact ⟨0, 4, [], a0, c0, fun _ => 0, fun _ => 0, Nat.zero_le _, rfl, rfl, rfl, HH.out, hc, by unfold maxLen; omega, Tls.nothing _ _ _ _ _ _, hg1⟩
  case round =>
    clear HH
    obtain ⟨s, p, ts, a', c', g, c, hs, rfl, rfl, hrd, hsl, hc1, hc2, htl, hgr⟩ := hrel
    obtain ⟨tl1, p4, pB, tl2⟩ := HOK.out s ts p hs hrd
    have htv : ∃ ta tn tc, u6 = .slice ta tn tc := by
      rcases htl.own.2 with ⟨e, _⟩ | ⟨b', cap', cur, e, _⟩
      · exact ⟨_, _, _, e⟩
      · exact ⟨_, _, _, e⟩
    obtain ⟨ta, tn, tc, rfl⟩ := htv
    unfold maxLen at hc2
    by_cases hlt : s < C
    · obtain ⟨t1, t2, t3⟩ := HTN.out s hlt
      obtain ⟨z1, z2, z3, z4, -, -⟩ := HSB.out s hlt
      have hszy := fun u => HSZ.out s u hlt
      have HSY := hide hszy
      have HSL := hide hsl
      have HTL := hide htl
      have HRD := hide hrd
      have HT1 := hide t1
      have HWG := hide (HW.out.gr hgr)
      clear hszy hsl htl hrd t1 tl2
      by_cases hk : (getL (tnF W H s) (B - p) (fun i => b (p + i))).1 = 0
      · obtain ⟨L, u, e1⟩ : ∃ L u, getL (tnF W H s) (B - p) (fun i => b (p + i)) = (0, L, u) := ⟨_, _, Prod.ext hk rfl⟩
        obtain ⟨gl0, -, gl1, -, gl3, -⟩ := getL_ok (fun i hi => HB.out (p + i) (by omega)) t2 e1
        obtain ⟨-, -, -, gl4, gl5, -⟩ := readL_ok (fun i hi => HB.out (p + i) (by omega)) t2 gl0
        have hrd2 := rd_step HRD.out e1
        obtain ⟨bb, oo, rfl, hbb, -⟩ := HSL.out.at gl5
        have hget := fun (v : World) (hv : Gr wr v) => Go.Proofs.YtakmiafloolpmaaDoor.get_ok L u (some ⟨bb, oo, none⟩) (B - p) c' (twF W s) (thF W H s) (tnF W H s) (fun i => b (p + i)) ga v (HSL.out.gr (hgr.trans hv)) (HWG.out.gr hv) hc1 (by unfold maxLen; omega) (by omega) ⟨z1, z2⟩ ⟨z3, z4⟩ HT1.out e1
        rw [gl1] at hget
        have HGE := hide hget
        have HR2 := hide hrd2
        have hBp : ((B - p : Nat) : Int) = (B : Int) - p := by omega
        have HOW : Hid (∀ v, Gr wr v → v.ownsRow w.heap.size 31 3 (.slice ta tn tc) s (tcs W H g c s)) := hide (fun v hv => by
          have := (HTL.out.gr hv).own
          rw [tl1] at this
          exact this)
        have hwr := hgr.size
        clear hk e1 hrd2 hget gl0
        go_wp2_with (first | (go_at_call 52; refine (HSY.out _).mono ?_; rintro e w2 ⟨rfl, hd2⟩; have hg2 := Dr.gr hd2; clear hd2) | (go_at_call 65; refine (HGE.out _ hg2).mono ?_; rintro e w3 ⟨⟨g3, c3, rfl, q1, q2, hs3⟩, hg3⟩) | (at_builtin; refine wpList_append_own _ rfl _ _ 49 rfl w.heap.size 31 i3 (.agg #[.int .i64 0, .int .i64 0, .slice none 0 0]) 3 40 Tryd.underlying49 hi3 hy0 hy1 hy2 rfl (by decide) (.slice ta tn tc) s (tcs W H g c s) rfl (HOW.out _ (hg2.trans (hg3.trans (by (repeat (first | (with_reducible exact Gr.refl _) | (with_reducible assumption) | (with_reducible refine Gr.alloc ?_ _) | (with_reducible refine Gr.drewN ?_ _) | (with_reducible refine Gr.drew ?_) | (with_reducible refine Gr.set ?_ (by dsimp only; omega) _) | (with_reducible refine Gr.trans ?_ (by with_reducible assumption)))); first | done | fail)))) ⟨w3.heap.size + 1, 0, none⟩ 1 1 [.int .i64 (twF W s), .int .i64 (thF W H s), .slice (some ⟨g3, 0, none⟩) (tnF W H s) c3] rfl rfl (three_news _ _ _ _ _ (by simp only [World.size_alloc])) (by simp [Value.oneCell']) (by unfold maxLen; omega) (by omega) (by have := hg2.size; have := hg3.size; simp only [World.size_alloc]; omega) ?_; intro v' w4 hown4 hgrow4 hnil4; obtain ⟨g4, c4, htl4, hgr4⟩ := HTL.out.step tl1 (hg2.trans (hg3.trans (by (repeat (first | (with_reducible exact Gr.refl _) | (with_reducible assumption) | (with_reducible refine Gr.alloc ?_ _) | (with_reducible refine Gr.drewN ?_ _) | (with_reducible refine Gr.drew ?_) | (with_reducible refine Gr.set ?_ (by dsimp only; omega) _) | (with_reducible refine Gr.trans ?_ (by with_reducible assumption)))); first | done | fail))) (hs3.gr (by (repeat (first | (with_reducible exact Gr.refl _) | (with_reducible assumption) | (with_reducible refine Gr.alloc ?_ _) | (with_reducible refine Gr.drewN ?_ _) | (with_reducible refine Gr.drew ?_) | (with_reducible refine Gr.set ?_ (by dsimp only; omega) _) | (with_reducible refine Gr.trans ?_ (by with_reducible assumption)))); first | done | fail)) t2 q1 q2 hown4 hgrow4 (w0 := w) (hgr.trans (hg2.trans (hg3.trans (by (repeat (first | (with_reducible exact Gr.refl _) | (with_reducible assumption) | (with_reducible refine Gr.alloc ?_ _) | (with_reducible refine Gr.drewN ?_ _) | (with_reducible refine Gr.drew ?_) | (with_reducible refine Gr.set ?_ (by dsimp only; omega) _) | (with_reducible refine Gr.trans ?_ (by with_reducible assumption)))); first | done | fail)))) (Nat.le_refl _); clear hown4 hgrow4 hnil4))
        go_roundw
        case rel =>
          refine ⟨s + 1, p + u, ts ++ [L], _, c' - u, g4, c4, by omega, by go_num, by rw [Nat.sub_sub], HR2.out, ?_, by omega, by unfold maxLen; omega, htl4, hgr4⟩
          have := HSL.out.cut (k := u) (a' := if c' = u then some ⟨bb, oo, none⟩ else some ⟨bb, oo + u, none⟩) (fun hk b' o' e => by cases e; rw [if_neg (by omega)])
          rw [Nat.sub_sub] at this
          exact this.congr fun i hi => by rw [Nat.add_assoc]
        case measure => simp [intOf]; omega
      · obtain ⟨k, e1⟩ : ∃ k, getL (tnF W H s) (B - p) (fun i => b (p + i)) = (k, [], 0) := by
          rcases getL_kind (tnF W H s) (B - p) (fun i => b (p + i)) with e | e | e
          · exact absurd e hk
          · exact ⟨2, e⟩
          · exact ⟨3, e⟩
        have hk0 : k ≠ 0 := by rw [e1] at hk; exact hk
        have hrd2 := rd_fail HRD.out hk
        rw [e1] at hrd2
        have hrd3 : rdS W H B b C = (k, [], 0) := by
          have := rd_stick (s := s + 1) (W := W) (H := H) (B := B) (b := b) (by rw [hrd2]; exact hk0) (C - (s + 1))
          rw [show s + 1 + (C - (s + 1)) = C by omega, hrd2] at this
          exact this
        have hget := fun (v : World) (hv : Gr wr v) => get_err k a' (B - p) c' (twF W s) (thF W H s) (tnF W H s) (fun i => b (p + i)) ga v (HSL.out.gr (hgr.trans hv)) (HWG.out.gr hv) hc1 (by unfold maxLen; omega) (by omega) ⟨z1, z2⟩ ⟨z3, z4⟩ HT1.out hk0 e1
        have HGE := hide hget
        have HR3 := hide hrd3
        have hk0' : (k != 0) = true := by simp [hk0]
        have HK0 := hide hk0
        clear hk e1 hrd2 hrd3 hget hk0
        go_wp2_with (first | (go_at_call 52; refine (HSY.out _).mono ?_; rintro e w2 ⟨rfl, hd2⟩; have hg2 := Dr.gr hd2; clear hd2) | (go_at_call 65; refine (HGE.out _ hg2).mono ?_; rintro e w3 ⟨rfl, hg3⟩) | (go_at_call 66; refine (inSector_any _ _ _).mono ?_; rintro e w4 ⟨⟨fb, rfl, hf1, hf2⟩, hg4⟩; have hr9 : w4.cell? ⟨w3.heap.size + 1, 0, none⟩ = some (.int .i64 k) := (cell_gr (by simp [go_sem]) hg4); have hgr4 : Gr w w4 := (hgr.trans (hg2.trans (hg3.trans (Gr.trans (by (repeat (first | (with_reducible exact Gr.refl _) | (with_reducible assumption) | (with_reducible refine Gr.alloc ?_ _) | (with_reducible refine Gr.drewN ?_ _) | (with_reducible refine Gr.drew ?_) | (with_reducible refine Gr.set ?_ (by dsimp only; omega) _) | (with_reducible refine Gr.trans ?_ (by with_reducible assumption)))); first | done | fail) hg4))))))
        refine bodyPost_ret (v := .tuple #[.slice none 0 0, .slice none 0 0, .iface 103 (.pointer (some ⟨fb, 0, none⟩))]) (by simp [results, Tryd.results56, go_sem]) rfl ?_
        rw [HR3.out]
        exact ⟨⟨_, rfl, .inr ⟨HK0.out, fb, _, rfl, hf1, hr9⟩⟩, hgr4⟩
    · have hsC : s = C := by omega
      subst hsC
      have HR3 := hide hrd
      have HTL := hide htl
      clear hrd htl
      go_wp2
      refine bodyPost_ret (v := .tuple #[.slice ta tn tc, .slice a' (B - p) c', .nilIface]) (by simp [results, Tryd.results56, go_sem]) rfl ?_
      rw [HR3.out]
      exact ⟨⟨_, rfl, .inl ⟨rfl, _, _, _, g, c, rfl, HTL.out⟩⟩, hgr⟩

end Go.Proofs.YtakmiafloolpmaaDoor
