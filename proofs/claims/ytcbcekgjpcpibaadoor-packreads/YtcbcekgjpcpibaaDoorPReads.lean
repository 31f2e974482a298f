/- PackReads' walk: it answers true at every input where the package's variables hold what its text lays; nothing that was there is written. -/
import Derived.Test.YtcbcekgjpcpibaaDoorRRuns
namespace Go.Proofs.YtcbcekgjpcpibaaDoor
open Go.RowKit
set_option maxRecDepth 20000

theorem rget_any (a : Option Addr) (B cap : Nat) (W H : Int) (n : Nat) (b : Nat → Int) (w : World) (h : Sl w a B b) (hc : B ≤ cap) (hB7 : B ≤ 1000000) (hW : 1 ≤ W ∧ W ≤ 16) (hH : 1 ≤ H ∧ H ≤ 16) (hn : (n : Int) = W * H) :
    Calls Tryd.prog 10 #[.slice a B cap, .int .i64 W, .int .i64 H] w fun e w' => (∃ v, e = .returned v ∧ Gets w' W H (getL n B b) v) ∧ Gr w w' := by
  by_cases hB : B = 0
  · have R : getL n B b = (2, [], 0) := by
      have : readL n B b = (2, [], 0) := by unfold readL; rw [if_pos hB]
      unfold getL; rw [this, if_pos (by simp)]
    rw [R]
    subst hB
    refine (rget_empty a cap W H w hW hH).mono ?_
    rintro e w1 ⟨rfl, hg⟩
    exact ⟨⟨_, rfl, .inr ⟨by simp, rfl⟩⟩, hg⟩
  have hB0 : 0 < B := by omega
  by_cases h0 : b 0 = 0
  · exact rget_alike a B cap W H n b w h hB0 hc hW hH hn h0
  by_cases h1 : b 0 = 1
  · exact rget_plain a B cap W H n b w h hB0 hc hB7 hW hH hn h1
  by_cases h2 : b 0 = 2
  · exact rget_runs a B cap W H n b w h hB0 hc hB7 hW hH hn h2
  · have R : getL n B b = (3, [], 0) := by
      have : readL n B b = (3, [], 0) := by unfold readL; rw [if_neg hB, if_neg h0, if_neg h1, if_neg h2]
      unfold getL; rw [this, if_pos (by simp)]
    rw [R]
    refine (rget_other a B cap W H b w h hB0 hW hH ⟨h0, h1, h2⟩).mono ?_
    rintro e w1 ⟨rfl, hg⟩
    exact ⟨⟨_, rfl, .inr ⟨by simp, rfl⟩⟩, hg⟩

/-- a tile, how many bytes, a code -/
def Ans (w : World) (tW tH u k : Int) (tn : Nat) (tf : Nat → Int) (v : Value) : Prop := ∃ ta tc, v = .tuple #[.agg #[.int .i64 tW, .int .i64 tH, .slice ta tn tc], .int .i64 u, .int .i64 k] ∧ Sl w ta tn tf
theorem ans_no (w : World) (k : Int) (tf : Nat → Int) : Ans w 0 0 0 k 0 tf (.tuple #[.agg #[.int .i64 0, .int .i64 0, .slice none 0 0], .int .i64 0, .int .i64 k]) :=
  ⟨none, 0, rfl, ⟨fun _ hi => absurd hi (Nat.not_lt_zero _), .inl rfl⟩⟩
theorem ans_of {w : World} {W H : Int} {r : Int × List Int × Nat} {v : Value} (h : Gets w W H r v) : Ans w (if r.1 = 0 then W else 0) (if r.1 = 0 then H else 0) (if r.1 = 0 then (r.2.2 : Int) else 0) r.1 (if r.1 = 0 then r.2.1.length else 0) (at0 r.2.1) v := by
  rcases h with ⟨h0, g, c, rfl, _, _, hs⟩ | ⟨h0, rfl⟩
  · rw [if_pos h0, if_pos h0, if_pos h0, if_pos h0, h0]
    exact ⟨_, c, rfl, hs⟩
  · rw [if_neg h0, if_neg h0, if_neg h0, if_neg h0]
    exact ans_no _ _ _
/-- Get and the document's answer are the same -/
theorem both_any (W H : Int) (B : Nat) (b : Nat → Int) (hB7 : B ≤ 1000000) :
    ∃ (tW tH u k : Int) (tn : Nat) (tf : Nat → Int), ∀ (a : Option Addr) (cap : Nat) (w : World), Sl w a B b → B ≤ cap → cap ≤ maxLen →
      (∀ ga, Glob w ga → Calls Tryd.prog 9 #[.slice a B cap, .int .i64 W, .int .i64 H] w fun e w' => (∃ v, e = .returned v ∧ Ans w' tW tH u k tn tf v) ∧ Gr w w') ∧
      Calls Tryd.prog 10 #[.slice a B cap, .int .i64 W, .int .i64 H] w fun e w' => (∃ v, e = .returned v ∧ Ans w' tW tH u k tn tf v) ∧ Gr w w' := by
  by_cases hf : fitsB W = false ∨ fitsB H = false
  · refine ⟨0, 0, 0, 1, 0, fun _ => 0, fun a cap w h hc hcm => ⟨fun ga hw => ?_, ?_⟩⟩
    · refine (get_arg a B cap W H w hf).mono ?_
      rintro e w1 ⟨rfl, hg⟩
      exact ⟨⟨_, rfl, ans_no _ _ _⟩, hg⟩
    · refine (rget_arg a B cap W H w hf).mono ?_
      rintro e w1 ⟨rfl, hg⟩
      exact ⟨⟨_, rfl, ans_no _ _ _⟩, hg⟩
  · have fW : fitsB W = true := by cases e : fitsB W; exact absurd (.inl e) hf; rfl
    have fH : fitsB H = true := by cases e : fitsB H; exact absurd (.inr e) hf; rfl
    have hW := (fitsB_iff W).1 fW
    have hH := (fitsB_iff H).1 fH
    have mb := mul_bd (w := W) (h := H) (W := 16) (H := 16) (by omega) (by omega) (by omega) (by omega)
    have hn : (((W * H).toNat : Nat) : Int) = W * H := by omega
    refine ⟨if (getL (W * H).toNat B b).1 = 0 then W else 0, if (getL (W * H).toNat B b).1 = 0 then H else 0, if (getL (W * H).toNat B b).1 = 0 then ((getL (W * H).toNat B b).2.2 : Int) else 0, (getL (W * H).toNat B b).1, if (getL (W * H).toNat B b).1 = 0 then (getL (W * H).toNat B b).2.1.length else 0, at0 (getL (W * H).toNat B b).2.1, fun a cap w h hc hcm => ⟨fun ga hw => ?_, ?_⟩⟩
    · refine (get_any a B cap W H (W * H).toNat b ga w h hw hc hcm hB7 hW hH hn).mono ?_
      rintro e w1 ⟨⟨v, rfl, hv⟩, hg⟩
      exact ⟨⟨v, rfl, ans_of hv⟩, hg⟩
    · refine (rget_any a B cap W H (W * H).toNat b w h hc hB7 hW hH hn).mono ?_
      rintro e w1 ⟨⟨v, rfl, hv⟩, hg⟩
      exact ⟨⟨v, rfl, ans_of hv⟩, hg⟩

/-- a copy -/
theorem copyB {w1 u w0 : World} {B n cc : Nat} {v' : Value} {f : Nat → Int} (h : w1.ownsRow B 5 1 v' (0 + n) ([] ++ cel .u8 n f)) (hnil : v' = .slice none 0 0 ↔ Value.slice (some ⟨B, 0, none⟩) 0 cc = .slice none 0 0 ∧ n = 0) (hg : u.grownBy w1 (Value.slice (some ⟨B, 0, none⟩) 0 cc).ownBlock) (h0 : Gr w0 u) (hB : w0.heap.size ≤ B) (hb : ∀ i, i < n → 0 ≤ f i ∧ f i ≤ 255) :
    ∃ g c, v' = .slice (some ⟨g, 0, none⟩) n c ∧ OwnB w1 w0.heap.size g n c f ∧ Gr w0 w1 := by
  obtain ⟨g, c, rfl, ho, -⟩ := own_some h hnil (by simp)
  refine ⟨g, c, rfl, ⟨own_mono ho hB, hb⟩, Gr.grown h0 hg ?_⟩
  intro k hk
  simp [Value.ownBlock] at hk
  omega
theorem sl_cel {w : World} {g n : Nat} {f : Nat → Int} (h : Sl w (some ⟨g, 0, none⟩) n f) : ∀ u, Gr w u → ∀ j v, (cel .u8 n f)[j]? = some v → u.cell? ((⟨g, 0, none⟩ : Addr).add j) = some v := by
  rcases h.has with h0 | ⟨b, o, e, hb, hc⟩
  · intro u _ j v hj
    subst h0
    simp [cel] at hj
  · cases e
    exact fun u hu => cel_at hc hb hu
theorem sl_cel' {w : World} {ad : Addr} {n : Nat} {f : Nat → Int} (h : Sl w (some ad) n f) : ∀ u, Gr w u → ∀ j v, (cel .u8 n f)[j]? = some v → u.cell? (ad.add j) = some v := by
  rcases h.has with h0 | ⟨b, o, e, hb, hc⟩
  · intro u _ j v hj
    subst h0
    simp [cel] at hj
  · cases e
    exact fun u hu => cel_at hc hb hu
theorem own_none (w : World) : OwnB (w.alloc (.cells #[] 5)) w.heap.size w.heap.size 0 0 (fun _ => 0) :=
  ⟨World.ownsRow_made w #[] 0 (Nat.le_refl _) (Nat.zero_le _) rfl, fun _ hi => absurd hi (Nat.not_lt_zero _)⟩

theorem sl0 (w : World) (a : Option Addr) (f : Nat → Int) : Sl w a 0 f := ⟨fun _ hi => absurd hi (Nat.not_lt_zero _), .inl rfl⟩

set_option maxHeartbeats 3000000 in
theorem packReads_any (a : Option Addr) (n cap : Nat) (f : Nat → Int) (W H form : Int) (raw : Bool) (ga : Nat → Addr) (w : World) (h : Sl w a n f) (ha : a = none → n = 0 ∧ cap = 0) (hw : Glob w ga) :
    Calls Tryd.prog 3 #[.slice a n cap, .int .i64 W, .int .i64 H, .int .i64 form, .bool raw] w fun e w' => e = .returned (.bool true) ∧ Gr w w' := by
  obtain ⟨i0, hi, hz0, hz1, hz2⟩ := info_parts info_u8
  by_cases h7 : 700 < n
  · go_enter Tryd.func3, Tryd.ntmps3
    go_wp2_with (go_at_call 7; refine (told3_any _).mono ?_; rintro e w3 ⟨rfl, hg3⟩)
    go_ret
    exact ⟨rfl, (by repeat (first | exact Gr.refl _ | assumption | exact Dr.gr (by assumption) | refine Gr.alloc ?_ _ | refine Gr.drewN ?_ _ | refine Gr.drew ?_ | refine Gr.trans ?_ (by assumption) | refine Gr.trans ?_ (Dr.gr (by assumption))))⟩
  have HBY := hide h.byte
  have wb1 := within_bd W 1 5 (by omega)
  have wb2 := within_bd H 1 5 (by omega)
  have wb3 := within_bd form 0 2 (by omega)
  obtain ⟨W1, hW1⟩ : ∃ x, withinF W 1 5 = x := ⟨_, rfl⟩
  obtain ⟨H1, hH1⟩ : ∃ x, withinF H 1 5 = x := ⟨_, rfl⟩
  obtain ⟨z, hZ1⟩ : ∃ x, withinF form 0 2 = x := ⟨_, rfl⟩
  rw [hW1] at wb1
  rw [hH1] at wb2
  rw [hZ1] at wb3
  have HW1 := hide hW1
  have HH1 := hide hH1
  have HZ1 := hide hZ1
  clear hW1 hH1 hZ1
  cases a with
  | some ad =>
    have HC0 := hide (sl_cel' h)
    by_cases hn0 : n = 0
    · subst hn0
      cases raw
      · clear h
        obtain ⟨tW, tH, tu, tk, tn, tf, hboth⟩ := both_any W1 H1 0 f (by omega)
        have HBO := hide hboth
        have HSM := hide (sameTB_of (W := tW) (H := tH) (n := tn) (m := tn) (f := tf) (g := tf) rfl (fun _ _ => rfl))
        clear hboth
        go_enter Tryd.func3, Tryd.ntmps3
        go_wp2_with (first | (at_builtin; refine wpList_append_own _ rfl _ _ 22 rfl w.heap.size 5 i0 (.int .u8 0) 1 1 Tryd.underlying22 hi hz0 hz1 hz2 rfl (by decide) (.slice (some ⟨w.heap.size, 0, none⟩) 0 0) 0 [] rfl (World.ownsRow_made w #[] 0 (Nat.le_refl _) (Nat.zero_le _) rfl) ad 0 cap (cel .u8 0 f) rfl (by simp [cel_len]) (HC0.out _ ((Gr.refl _).alloc _)) (cel_one _ _ _) (by unfold maxLen; omega) (by omega) (by simp only [World.size_alloc]; omega) ?_; intro v' w1 hown1 hgrow1 hnil1; obtain ⟨g1, k1, rfl, ho1, hg1⟩ := copyB hown1 hnil1 hgrow1 ((Gr.refl w).alloc _) (Nat.le_refl _) HBY.out; have hk1 := ho1.sl.2.1; clear ho1; clear hown1 hgrow1 hnil1) | (go_at_call 8; refine (within_st _ _ _ _ (by omega) (by omega) (by omega)).mono ?_; rintro e w2 ⟨rfl, hw2⟩; replace hw2 := hw2.symm; subst hw2; first | rw [HW1.out] | rw [HH1.out] | rw [HZ1.out]) | (go_at_call 9; refine ((HBO.out _ _ _ (sl0 _ _ f) (Nat.zero_le _) hk1).1 ga (hw.gr (by repeat (first | exact Gr.refl _ | assumption | exact Dr.gr (by assumption) | refine Gr.alloc ?_ _ | refine Gr.drewN ?_ _ | refine Gr.drew ?_ | refine Gr.trans ?_ (by assumption) | refine Gr.trans ?_ (Dr.gr (by assumption)))))).mono ?_; rintro e w4 ⟨⟨v, rfl, ta, tc, rfl, st⟩, hg4⟩) | (go_at_call 10; refine (HBO.out _ _ _ (sl0 _ _ f) (Nat.zero_le _) hk1).2.mono ?_; rintro e w5 ⟨⟨v, rfl, tb, td, rfl, su⟩, hg5⟩; obtain ⟨ho5, -, -⟩ := hg5.old; have q5 : w4.heap.size < w5.heap.size := (by have := hg5.size; simp only [World.size_alloc] at this; omega)) | (go_at_call 7; refine (told3_any _).mono ?_; rintro e w6 ⟨rfl, hg6⟩; obtain ⟨ho6, -, -⟩ := hg6.old; have q6 : w4.heap.size < w6.heap.size := (by have := hg6.size; simp only [World.size_alloc] at this; omega); have q7 : w5.heap.size < w6.heap.size := (by have := hg6.size; simp only [World.size_alloc] at this; omega); have q8 : w4.heap.size < w5.heap.size + 1 := (by omega); have q9 : w4.heap.size ≠ w5.heap.size := (by omega)) | (go_at_call 11; refine (rsameT_any _ _ _ _ _ _ _ _ _ _ tf tf _ (st.gr (by repeat (first | exact Gr.refl _ | assumption | exact Dr.gr (by assumption) | refine Gr.alloc ?_ _ | refine Gr.drewN ?_ _ | refine Gr.drew ?_ | refine Gr.trans ?_ (by assumption) | refine Gr.trans ?_ (Dr.gr (by assumption))))) (su.gr (by repeat (first | exact Gr.refl _ | assumption | exact Dr.gr (by assumption) | refine Gr.alloc ?_ _ | refine Gr.drewN ?_ _ | refine Gr.drew ?_ | refine Gr.trans ?_ (by assumption) | refine Gr.trans ?_ (Dr.gr (by assumption)))))).mono ?_; rintro e w7 ⟨rfl, hg7⟩; rw [HSM.out]) | (go_at_call 12; refine (rbytes_any _ _ _ _ _ _ f f _ (sl0 _ _ f) (sl0 _ _ f)).mono ?_; rintro e w8 ⟨rfl, hw8⟩; subst hw8; rw [sameB_refl]))
        go_ret
        exact ⟨ret_bool (by simp), (by repeat (first | exact Gr.refl _ | assumption | exact Dr.gr (by assumption) | refine Gr.alloc ?_ _ | refine Gr.drewN ?_ _ | refine Gr.drew ?_ | refine Gr.trans ?_ (by assumption) | refine Gr.trans ?_ (Dr.gr (by assumption))))⟩
      · clear h
        obtain ⟨tW, tH, tu, tk, tn, tf, hboth⟩ := both_any W H 0 f (by omega)
        have HBO := hide hboth
        have HSM := hide (sameTB_of (W := tW) (H := tH) (n := tn) (m := tn) (f := tf) (g := tf) rfl (fun _ _ => rfl))
        clear hboth
        go_enter Tryd.func3, Tryd.ntmps3
        go_wp2_with (first | (at_builtin; refine wpList_append_own _ rfl _ _ 22 rfl w.heap.size 5 i0 (.int .u8 0) 1 1 Tryd.underlying22 hi hz0 hz1 hz2 rfl (by decide) (.slice (some ⟨w.heap.size, 0, none⟩) 0 0) 0 [] rfl (World.ownsRow_made w #[] 0 (Nat.le_refl _) (Nat.zero_le _) rfl) ad 0 cap (cel .u8 0 f) rfl (by simp [cel_len]) (HC0.out _ ((Gr.refl _).alloc _)) (cel_one _ _ _) (by unfold maxLen; omega) (by omega) (by simp only [World.size_alloc]; omega) ?_; intro v' w1 hown1 hgrow1 hnil1; obtain ⟨g1, k1, rfl, ho1, hg1⟩ := copyB hown1 hnil1 hgrow1 ((Gr.refl w).alloc _) (Nat.le_refl _) HBY.out; have hk1 := ho1.sl.2.1; clear ho1; clear hown1 hgrow1 hnil1) | (go_at_call 8; refine (within_st _ _ _ _ (by omega) (by omega) (by omega)).mono ?_; rintro e w2 ⟨rfl, hw2⟩; replace hw2 := hw2.symm; subst hw2; first | rw [HW1.out] | rw [HH1.out] | rw [HZ1.out]) | (go_at_call 9; refine ((HBO.out _ _ _ (sl0 _ _ f) (Nat.zero_le _) hk1).1 ga (hw.gr (by repeat (first | exact Gr.refl _ | assumption | exact Dr.gr (by assumption) | refine Gr.alloc ?_ _ | refine Gr.drewN ?_ _ | refine Gr.drew ?_ | refine Gr.trans ?_ (by assumption) | refine Gr.trans ?_ (Dr.gr (by assumption)))))).mono ?_; rintro e w4 ⟨⟨v, rfl, ta, tc, rfl, st⟩, hg4⟩) | (go_at_call 10; refine (HBO.out _ _ _ (sl0 _ _ f) (Nat.zero_le _) hk1).2.mono ?_; rintro e w5 ⟨⟨v, rfl, tb, td, rfl, su⟩, hg5⟩; obtain ⟨ho5, -, -⟩ := hg5.old; have q5 : w4.heap.size < w5.heap.size := (by have := hg5.size; simp only [World.size_alloc] at this; omega)) | (go_at_call 7; refine (told3_any _).mono ?_; rintro e w6 ⟨rfl, hg6⟩; obtain ⟨ho6, -, -⟩ := hg6.old; have q6 : w4.heap.size < w6.heap.size := (by have := hg6.size; simp only [World.size_alloc] at this; omega); have q7 : w5.heap.size < w6.heap.size := (by have := hg6.size; simp only [World.size_alloc] at this; omega); have q8 : w4.heap.size < w5.heap.size + 1 := (by omega); have q9 : w4.heap.size ≠ w5.heap.size := (by omega)) | (go_at_call 11; refine (rsameT_any _ _ _ _ _ _ _ _ _ _ tf tf _ (st.gr (by repeat (first | exact Gr.refl _ | assumption | exact Dr.gr (by assumption) | refine Gr.alloc ?_ _ | refine Gr.drewN ?_ _ | refine Gr.drew ?_ | refine Gr.trans ?_ (by assumption) | refine Gr.trans ?_ (Dr.gr (by assumption))))) (su.gr (by repeat (first | exact Gr.refl _ | assumption | exact Dr.gr (by assumption) | refine Gr.alloc ?_ _ | refine Gr.drewN ?_ _ | refine Gr.drew ?_ | refine Gr.trans ?_ (by assumption) | refine Gr.trans ?_ (Dr.gr (by assumption)))))).mono ?_; rintro e w7 ⟨rfl, hg7⟩; rw [HSM.out]) | (go_at_call 12; refine (rbytes_any _ _ _ _ _ _ f f _ (sl0 _ _ f) (sl0 _ _ f)).mono ?_; rintro e w8 ⟨rfl, hw8⟩; subst hw8; rw [sameB_refl]))
        go_ret
        exact ⟨ret_bool (by simp), (by repeat (first | exact Gr.refl _ | assumption | exact Dr.gr (by assumption) | refine Gr.alloc ?_ _ | refine Gr.drewN ?_ _ | refine Gr.drew ?_ | refine Gr.trans ?_ (by assumption) | refine Gr.trans ?_ (Dr.gr (by assumption))))⟩
    · have hnp : (0 : Int) < n := by omega
      have hnq : 0 < n := by omega
      cases raw
      · clear h
        have zw : IntKind.u8.wrap z = z := by rw [wrap8]; omega
        obtain ⟨tW, tH, tu, tk, tn, tf, hboth⟩ := both_any W1 H1 n (upd f 0 z) (by omega)
        have HBO := hide hboth
        have HSM := hide (sameTB_of (W := tW) (H := tH) (n := tn) (m := tn) (f := tf) (g := tf) rfl (fun _ _ => rfl))
        clear hboth
        go_enter Tryd.func3, Tryd.ntmps3
        go_wp2_with (first | (at_builtin; refine wpList_append_own _ rfl _ _ 22 rfl w.heap.size 5 i0 (.int .u8 0) 1 1 Tryd.underlying22 hi hz0 hz1 hz2 rfl (by decide) (.slice (some ⟨w.heap.size, 0, none⟩) 0 0) 0 [] rfl (World.ownsRow_made w #[] 0 (Nat.le_refl _) (Nat.zero_le _) rfl) ad n cap (cel .u8 n f) rfl (by simp [cel_len]) (HC0.out _ ((Gr.refl _).alloc _)) (cel_one _ _ _) (by unfold maxLen; omega) (by omega) (by simp only [World.size_alloc]; omega) ?_; intro v' w1 hown1 hgrow1 hnil1; obtain ⟨g1, k1, rfl, ho1, hg1⟩ := copyB hown1 hnil1 hgrow1 ((Gr.refl w).alloc _) (Nat.le_refl _) HBY.out; have d0 := ho1.cellAt (i := 0) (by omega); have f0 := ho1.own.frozenAt 0; have hge1 := ho1.sl.2.2.1; have ho1x := ho1.set 0 (x := z) (by omega); obtain ⟨k1a, k1b, -, -, sl1⟩ := ho1x.sl; have HCX := hide (sl_cel sl1); have hg1x : Gr w (w1.setCell ⟨g1, 0, none⟩ (.int .u8 z)) := hg1.set (p := ⟨g1, 0, none⟩) hge1 _; have HWG := hide (hw.gr hg1x); have hg1y := hg1; have HSZ : Hid (w1.heap.size = (w1.setCell ⟨g1, 0, none⟩ (.int .u8 z)).heap.size) := hide (by simp [World.setCell]); clear hg1 ho1; clear hown1 hgrow1 hnil1) | (go_at_call 8; refine (within_st _ _ _ _ (by omega) (by omega) (by omega)).mono ?_; rintro e w2 ⟨rfl, hw2⟩; replace hw2 := hw2.symm; subst hw2; first | rw [HW1.out] | rw [HH1.out] | rw [HZ1.out]) | (at_builtin; refine wpList_append_own _ rfl _ _ 22 rfl w1.heap.size 5 i0 (.int .u8 0) 1 1 Tryd.underlying22 hi hz0 hz1 hz2 rfl (by decide) (.slice (some ⟨w1.heap.size, 0, none⟩) 0 0) 0 [] rfl (own_empty (w := w1.setCell ⟨g1, 0, none⟩ (.int .u8 z)) HSZ.out (Nat.le_of_eq HSZ.out) (Gr.refl _)) ⟨g1, 0, none⟩ n k1 (cel .u8 n (upd f 0 z)) rfl (by simp [cel_len]) (HCX.out _ ((Gr.refl _).alloc _)) (cel_one _ _ _) (by unfold maxLen; omega) (by omega) (by simp only [World.size_alloc]; rw [← HSZ.out]; omega) ?_; intro v' w3 hown3 hgrow3 hnil3; obtain ⟨g3, k3, rfl, ho3, hg3⟩ := copyB hown3 hnil3 hgrow3 ((Gr.refl (w1.setCell ⟨g1, 0, none⟩ (.int .u8 z))).alloc _) (Nat.le_of_eq HSZ.out.symm) ho1x.byte; have sl3 := ho3.sl.2.2.2.2; clear hown3 hgrow3 hnil3 ho3) | (go_at_call 9; refine ((HBO.out _ _ _ (sl1.gr hg3) k1a k1b).1 ga (HWG.out.gr hg3)).mono ?_; rintro e w4 ⟨⟨v, rfl, ta, tc, rfl, st⟩, hg4⟩) | (go_at_call 10; refine (HBO.out _ _ _ (sl1.gr (by repeat (first | exact Gr.refl _ | assumption | exact Dr.gr (by assumption) | refine Gr.alloc ?_ _ | refine Gr.drewN ?_ _ | refine Gr.drew ?_ | refine Gr.trans ?_ (by assumption) | refine Gr.trans ?_ (Dr.gr (by assumption))))) k1a k1b).2.mono ?_; rintro e w5 ⟨⟨v, rfl, tb, td, rfl, su⟩, hg5⟩; obtain ⟨ho5, -, -⟩ := hg5.old; have q5 : w4.heap.size < w5.heap.size := (by have := hg5.size; simp only [World.size_alloc] at this; omega)) | (go_at_call 7; refine (told3_any _).mono ?_; rintro e w6 ⟨rfl, hg6⟩; obtain ⟨ho6, -, -⟩ := hg6.old; have q6 : w4.heap.size < w6.heap.size := (by have := hg6.size; simp only [World.size_alloc] at this; omega); have q7 : w5.heap.size < w6.heap.size := (by have := hg6.size; simp only [World.size_alloc] at this; omega); have q8 : w4.heap.size < w5.heap.size + 1 := (by omega); have q9 : w4.heap.size ≠ w5.heap.size := (by omega)) | (go_at_call 11; refine (rsameT_any _ _ _ _ _ _ _ _ _ _ tf tf _ (st.gr (by repeat (first | exact Gr.refl _ | assumption | exact Dr.gr (by assumption) | refine Gr.alloc ?_ _ | refine Gr.drewN ?_ _ | refine Gr.drew ?_ | refine Gr.trans ?_ (by assumption) | refine Gr.trans ?_ (Dr.gr (by assumption))))) (su.gr (by repeat (first | exact Gr.refl _ | assumption | exact Dr.gr (by assumption) | refine Gr.alloc ?_ _ | refine Gr.drewN ?_ _ | refine Gr.drew ?_ | refine Gr.trans ?_ (by assumption) | refine Gr.trans ?_ (Dr.gr (by assumption)))))).mono ?_; rintro e w7 ⟨rfl, hg7⟩; rw [HSM.out]) | (go_at_call 12; refine (rbytes_any _ _ _ _ _ _ (upd f 0 z) (upd f 0 z) _ (sl1.gr (by repeat (first | exact Gr.refl _ | assumption | exact Dr.gr (by assumption) | refine Gr.alloc ?_ _ | refine Gr.drewN ?_ _ | refine Gr.drew ?_ | refine Gr.trans ?_ (by assumption) | refine Gr.trans ?_ (Dr.gr (by assumption))))) (sl3.gr (by repeat (first | exact Gr.refl _ | assumption | exact Dr.gr (by assumption) | refine Gr.alloc ?_ _ | refine Gr.drewN ?_ _ | refine Gr.drew ?_ | refine Gr.trans ?_ (by assumption) | refine Gr.trans ?_ (Dr.gr (by assumption)))))).mono ?_; rintro e w8 ⟨rfl, hw8⟩; subst hw8; rw [sameB_refl]))
        go_ret
        exact ⟨ret_bool (by simp), (by repeat (first | exact Gr.refl _ | assumption | exact Dr.gr (by assumption) | refine Gr.alloc ?_ _ | refine Gr.drewN ?_ _ | refine Gr.drew ?_ | refine Gr.trans ?_ (by assumption) | refine Gr.trans ?_ (Dr.gr (by assumption))))⟩
      · clear h
        obtain ⟨tW, tH, tu, tk, tn, tf, hboth⟩ := both_any W H n f (by omega)
        have HBO := hide hboth
        have HSM := hide (sameTB_of (W := tW) (H := tH) (n := tn) (m := tn) (f := tf) (g := tf) rfl (fun _ _ => rfl))
        clear hboth
        go_enter Tryd.func3, Tryd.ntmps3
        go_wp2_with (first | (at_builtin; refine wpList_append_own _ rfl _ _ 22 rfl w.heap.size 5 i0 (.int .u8 0) 1 1 Tryd.underlying22 hi hz0 hz1 hz2 rfl (by decide) (.slice (some ⟨w.heap.size, 0, none⟩) 0 0) 0 [] rfl (World.ownsRow_made w #[] 0 (Nat.le_refl _) (Nat.zero_le _) rfl) ad n cap (cel .u8 n f) rfl (by simp [cel_len]) (HC0.out _ ((Gr.refl _).alloc _)) (cel_one _ _ _) (by unfold maxLen; omega) (by omega) (by simp only [World.size_alloc]; omega) ?_; intro v' w1 hown1 hgrow1 hnil1; obtain ⟨g1, k1, rfl, ho1, hg1⟩ := copyB hown1 hnil1 hgrow1 ((Gr.refl w).alloc _) (Nat.le_refl _) HBY.out; obtain ⟨k1a, k1b, -, -, sl1⟩ := ho1.sl; have ho1x := ho1; have HCX := hide (sl_cel sl1); have HWG := hide (hw.gr hg1); clear ho1; clear hown1 hgrow1 hnil1) | (go_at_call 8; refine (within_st _ _ _ _ (by omega) (by omega) (by omega)).mono ?_; rintro e w2 ⟨rfl, hw2⟩; replace hw2 := hw2.symm; subst hw2; first | rw [HW1.out] | rw [HH1.out] | rw [HZ1.out]) | (at_builtin; refine wpList_append_own _ rfl _ _ 22 rfl w1.heap.size 5 i0 (.int .u8 0) 1 1 Tryd.underlying22 hi hz0 hz1 hz2 rfl (by decide) (.slice (some ⟨w1.heap.size, 0, none⟩) 0 0) 0 [] rfl (World.ownsRow_made w1 #[] 0 (Nat.le_refl _) (Nat.zero_le _) rfl) ⟨g1, 0, none⟩ n k1 (cel .u8 n f) rfl (by simp [cel_len]) (HCX.out _ ((Gr.refl _).alloc _)) (cel_one _ _ _) (by unfold maxLen; omega) (by omega) (by simp only [World.size_alloc]; omega) ?_; intro v' w3 hown3 hgrow3 hnil3; obtain ⟨g3, k3, rfl, ho3, hg3⟩ := copyB hown3 hnil3 hgrow3 ((Gr.refl w1).alloc _) (Nat.le_refl _) ho1x.byte; have sl3 := ho3.sl.2.2.2.2; clear hown3 hgrow3 hnil3 ho3) | (go_at_call 9; refine ((HBO.out _ _ _ (sl1.gr hg3) k1a k1b).1 ga (HWG.out.gr hg3)).mono ?_; rintro e w4 ⟨⟨v, rfl, ta, tc, rfl, st⟩, hg4⟩) | (go_at_call 10; refine (HBO.out _ _ _ (sl1.gr (by repeat (first | exact Gr.refl _ | assumption | exact Dr.gr (by assumption) | refine Gr.alloc ?_ _ | refine Gr.drewN ?_ _ | refine Gr.drew ?_ | refine Gr.trans ?_ (by assumption) | refine Gr.trans ?_ (Dr.gr (by assumption))))) k1a k1b).2.mono ?_; rintro e w5 ⟨⟨v, rfl, tb, td, rfl, su⟩, hg5⟩; obtain ⟨ho5, -, -⟩ := hg5.old; have q5 : w4.heap.size < w5.heap.size := (by have := hg5.size; simp only [World.size_alloc] at this; omega)) | (go_at_call 7; refine (told3_any _).mono ?_; rintro e w6 ⟨rfl, hg6⟩; obtain ⟨ho6, -, -⟩ := hg6.old; have q6 : w4.heap.size < w6.heap.size := (by have := hg6.size; simp only [World.size_alloc] at this; omega); have q7 : w5.heap.size < w6.heap.size := (by have := hg6.size; simp only [World.size_alloc] at this; omega); have q8 : w4.heap.size < w5.heap.size + 1 := (by omega); have q9 : w4.heap.size ≠ w5.heap.size := (by omega)) | (go_at_call 11; refine (rsameT_any _ _ _ _ _ _ _ _ _ _ tf tf _ (st.gr (by repeat (first | exact Gr.refl _ | assumption | exact Dr.gr (by assumption) | refine Gr.alloc ?_ _ | refine Gr.drewN ?_ _ | refine Gr.drew ?_ | refine Gr.trans ?_ (by assumption) | refine Gr.trans ?_ (Dr.gr (by assumption))))) (su.gr (by repeat (first | exact Gr.refl _ | assumption | exact Dr.gr (by assumption) | refine Gr.alloc ?_ _ | refine Gr.drewN ?_ _ | refine Gr.drew ?_ | refine Gr.trans ?_ (by assumption) | refine Gr.trans ?_ (Dr.gr (by assumption)))))).mono ?_; rintro e w7 ⟨rfl, hg7⟩; rw [HSM.out]) | (go_at_call 12; refine (rbytes_any _ _ _ _ _ _ f f _ (sl1.gr (by repeat (first | exact Gr.refl _ | assumption | exact Dr.gr (by assumption) | refine Gr.alloc ?_ _ | refine Gr.drewN ?_ _ | refine Gr.drew ?_ | refine Gr.trans ?_ (by assumption) | refine Gr.trans ?_ (Dr.gr (by assumption))))) (sl3.gr (by repeat (first | exact Gr.refl _ | assumption | exact Dr.gr (by assumption) | refine Gr.alloc ?_ _ | refine Gr.drewN ?_ _ | refine Gr.drew ?_ | refine Gr.trans ?_ (by assumption) | refine Gr.trans ?_ (Dr.gr (by assumption)))))).mono ?_; rintro e w8 ⟨rfl, hw8⟩; subst hw8; rw [sameB_refl]))
        go_ret
        exact ⟨ret_bool (by simp), (by repeat (first | exact Gr.refl _ | assumption | exact Dr.gr (by assumption) | refine Gr.alloc ?_ _ | refine Gr.drewN ?_ _ | refine Gr.drew ?_ | refine Gr.trans ?_ (by assumption) | refine Gr.trans ?_ (Dr.gr (by assumption))))⟩
  | none =>
    obtain ⟨rfl, rfl⟩ := ha rfl
    clear h
    cases raw
    · skip
      obtain ⟨tW, tH, tu, tk, tn, tf, hboth⟩ := both_any W1 H1 0 f (by omega)
      have HBO := hide hboth
      have HSM := hide (sameTB_of (W := tW) (H := tH) (n := tn) (m := tn) (f := tf) (g := tf) rfl (fun _ _ => rfl))
      clear hboth
      go_enter Tryd.func3, Tryd.ntmps3
      go_wp2_with (first | (go_at_call 8; refine (within_st _ _ _ _ (by omega) (by omega) (by omega)).mono ?_; rintro e w2 ⟨rfl, hw2⟩; replace hw2 := hw2.symm; subst hw2; first | rw [HW1.out] | rw [HH1.out] | rw [HZ1.out]) | (go_at_call 9; refine ((HBO.out _ _ _ (sl0 _ _ f) (Nat.zero_le _) (by unfold maxLen; omega)).1 ga (hw.gr (by repeat (first | exact Gr.refl _ | assumption | exact Dr.gr (by assumption) | refine Gr.alloc ?_ _ | refine Gr.drewN ?_ _ | refine Gr.drew ?_ | refine Gr.trans ?_ (by assumption) | refine Gr.trans ?_ (Dr.gr (by assumption)))))).mono ?_; rintro e w4 ⟨⟨v, rfl, ta, tc, rfl, st⟩, hg4⟩) | (go_at_call 10; refine (HBO.out _ _ _ (sl0 _ _ f) (Nat.zero_le _) (by unfold maxLen; omega)).2.mono ?_; rintro e w5 ⟨⟨v, rfl, tb, td, rfl, su⟩, hg5⟩; obtain ⟨ho5, -, -⟩ := hg5.old; have q5 : w4.heap.size < w5.heap.size := (by have := hg5.size; simp only [World.size_alloc] at this; omega)) | (go_at_call 7; refine (told3_any _).mono ?_; rintro e w6 ⟨rfl, hg6⟩; obtain ⟨ho6, -, -⟩ := hg6.old; have q6 : w4.heap.size < w6.heap.size := (by have := hg6.size; simp only [World.size_alloc] at this; omega); have q7 : w5.heap.size < w6.heap.size := (by have := hg6.size; simp only [World.size_alloc] at this; omega); have q8 : w4.heap.size < w5.heap.size + 1 := (by omega); have q9 : w4.heap.size ≠ w5.heap.size := (by omega)) | (go_at_call 11; refine (rsameT_any _ _ _ _ _ _ _ _ _ _ tf tf _ (st.gr (by repeat (first | exact Gr.refl _ | assumption | exact Dr.gr (by assumption) | refine Gr.alloc ?_ _ | refine Gr.drewN ?_ _ | refine Gr.drew ?_ | refine Gr.trans ?_ (by assumption) | refine Gr.trans ?_ (Dr.gr (by assumption))))) (su.gr (by repeat (first | exact Gr.refl _ | assumption | exact Dr.gr (by assumption) | refine Gr.alloc ?_ _ | refine Gr.drewN ?_ _ | refine Gr.drew ?_ | refine Gr.trans ?_ (by assumption) | refine Gr.trans ?_ (Dr.gr (by assumption)))))).mono ?_; rintro e w7 ⟨rfl, hg7⟩; rw [HSM.out]) | (go_at_call 12; refine (rbytes_any _ _ _ _ _ _ f f _ (sl0 _ _ f) (sl0 _ _ f)).mono ?_; rintro e w8 ⟨rfl, hw8⟩; subst hw8; rw [sameB_refl]))
      go_ret
      exact ⟨ret_bool (by simp), (by repeat (first | exact Gr.refl _ | assumption | exact Dr.gr (by assumption) | refine Gr.alloc ?_ _ | refine Gr.drewN ?_ _ | refine Gr.drew ?_ | refine Gr.trans ?_ (by assumption) | refine Gr.trans ?_ (Dr.gr (by assumption))))⟩
    · skip
      obtain ⟨tW, tH, tu, tk, tn, tf, hboth⟩ := both_any W H 0 f (by omega)
      have HBO := hide hboth
      have HSM := hide (sameTB_of (W := tW) (H := tH) (n := tn) (m := tn) (f := tf) (g := tf) rfl (fun _ _ => rfl))
      clear hboth
      go_enter Tryd.func3, Tryd.ntmps3
      go_wp2_with (first | (go_at_call 8; refine (within_st _ _ _ _ (by omega) (by omega) (by omega)).mono ?_; rintro e w2 ⟨rfl, hw2⟩; replace hw2 := hw2.symm; subst hw2; first | rw [HW1.out] | rw [HH1.out] | rw [HZ1.out]) | (go_at_call 9; refine ((HBO.out _ _ _ (sl0 _ _ f) (Nat.zero_le _) (by unfold maxLen; omega)).1 ga (hw.gr (by repeat (first | exact Gr.refl _ | assumption | exact Dr.gr (by assumption) | refine Gr.alloc ?_ _ | refine Gr.drewN ?_ _ | refine Gr.drew ?_ | refine Gr.trans ?_ (by assumption) | refine Gr.trans ?_ (Dr.gr (by assumption)))))).mono ?_; rintro e w4 ⟨⟨v, rfl, ta, tc, rfl, st⟩, hg4⟩) | (go_at_call 10; refine (HBO.out _ _ _ (sl0 _ _ f) (Nat.zero_le _) (by unfold maxLen; omega)).2.mono ?_; rintro e w5 ⟨⟨v, rfl, tb, td, rfl, su⟩, hg5⟩; obtain ⟨ho5, -, -⟩ := hg5.old; have q5 : w4.heap.size < w5.heap.size := (by have := hg5.size; simp only [World.size_alloc] at this; omega)) | (go_at_call 7; refine (told3_any _).mono ?_; rintro e w6 ⟨rfl, hg6⟩; obtain ⟨ho6, -, -⟩ := hg6.old; have q6 : w4.heap.size < w6.heap.size := (by have := hg6.size; simp only [World.size_alloc] at this; omega); have q7 : w5.heap.size < w6.heap.size := (by have := hg6.size; simp only [World.size_alloc] at this; omega); have q8 : w4.heap.size < w5.heap.size + 1 := (by omega); have q9 : w4.heap.size ≠ w5.heap.size := (by omega)) | (go_at_call 11; refine (rsameT_any _ _ _ _ _ _ _ _ _ _ tf tf _ (st.gr (by repeat (first | exact Gr.refl _ | assumption | exact Dr.gr (by assumption) | refine Gr.alloc ?_ _ | refine Gr.drewN ?_ _ | refine Gr.drew ?_ | refine Gr.trans ?_ (by assumption) | refine Gr.trans ?_ (Dr.gr (by assumption))))) (su.gr (by repeat (first | exact Gr.refl _ | assumption | exact Dr.gr (by assumption) | refine Gr.alloc ?_ _ | refine Gr.drewN ?_ _ | refine Gr.drew ?_ | refine Gr.trans ?_ (by assumption) | refine Gr.trans ?_ (Dr.gr (by assumption)))))).mono ?_; rintro e w7 ⟨rfl, hg7⟩; rw [HSM.out]) | (go_at_call 12; refine (rbytes_any _ _ _ _ _ _ f f _ (sl0 _ _ f) (sl0 _ _ f)).mono ?_; rintro e w8 ⟨rfl, hw8⟩; subst hw8; rw [sameB_refl]))
      go_ret
      exact ⟨ret_bool (by simp), (by repeat (first | exact Gr.refl _ | assumption | exact Dr.gr (by assumption) | refine Gr.alloc ?_ _ | refine Gr.drewN ?_ _ | refine Gr.drew ?_ | refine Gr.trans ?_ (by assumption) | refine Gr.trans ?_ (Dr.gr (by assumption))))⟩

end Go.Proofs.YtcbcekgjpcpibaaDoor
