/- What pack.Form and pack.Put and the document's PutTile answer, of a tile in memory. -/
import Derived.Test.YtakmiafloolpmaaDoorPWalks2
namespace Go.Proofs.YtakmiafloolpmaaDoor
open Go.RowKit
set_option maxRecDepth 20000

set_option maxHeartbeats 1000000 in
theorem form_no (W H : Int) (a : Option Addr) (n cap : Nat) (f : Nat → Int) (w : World) (h : Sl w a n f) (hm : mayTB W H n f = false) :
    Calls Tryd.prog 50 #[.agg #[.int .i64 W, .int .i64 H, .slice a n cap]] w fun e w' => e = .returned (.int .i64 (-1)) ∧ Gr w w' := by
  go_enter Tryd.func50, Tryd.ntmps50
  go_wp2_with (go_at_call 58; refine (tmay_any _ _ _ _ _ f _ (h.gr (by repeat (first | exact Gr.refl _ | assumption | exact Dr.gr (by assumption) | refine Gr.alloc ?_ _ | refine Gr.drewN ?_ _ | refine Gr.drew ?_ | refine Gr.trans ?_ (by assumption) | refine Gr.trans ?_ (Dr.gr (by assumption)))))).mono ?_; rintro e w' ⟨rfl, hg⟩; rw [hm]; obtain ⟨ho, hf, hs⟩ := hg.old)
  go_ret
  exact ⟨rfl, (by repeat (first | exact Gr.refl _ | assumption | exact Dr.gr (by assumption) | refine Gr.alloc ?_ _ | refine Gr.drewN ?_ _ | refine Gr.drew ?_ | refine Gr.trans ?_ (by assumption) | refine Gr.trans ?_ (Dr.gr (by assumption))))⟩

set_option maxHeartbeats 1000000 in
theorem form_yes (W H : Int) (a : Option Addr) (n cap : Nat) (f : Nat → Int) (w : World) (h : Sl w a n f) (hn : n ≤ cap) (hcap : cap ≤ maxLen) (hm : mayTB W H n f = true) :
    Calls Tryd.prog 50 #[.agg #[.int .i64 W, .int .i64 H, .slice a n cap]] w fun e w' => e = .returned (.int .i64 (formF n f)) ∧ Gr w w' := by
  obtain ⟨n1, n2, -, -⟩ := mayTB_n hm
  have hle := cntF_le n f 0
  obtain ⟨q, hq⟩ : ∃ q, cntF n f 0 = q := ⟨_, rfl⟩
  rw [hq] at hle
  by_cases c1 : q = 1
  · have E : Hid (formF n f = 0) := hide (by unfold formF; rw [hq, if_pos c1])
    subst c1
    go_enter Tryd.func50, Tryd.ntmps50
    go_wp2_with (first | (go_at_call 58; refine (tmay_any _ _ _ _ _ f _ (h.gr (by repeat (first | exact Gr.refl _ | assumption | exact Dr.gr (by assumption) | refine Gr.alloc ?_ _ | refine Gr.drewN ?_ _ | refine Gr.drew ?_ | refine Gr.trans ?_ (by assumption) | refine Gr.trans ?_ (Dr.gr (by assumption)))))).mono ?_; rintro e w1 ⟨rfl, hg⟩; rw [hm]; obtain ⟨ho, hf, hs⟩ := hg.old; have hz : w.heap.size < w1.heap.size := (by simp only [World.size_alloc] at hs; omega)) | (go_at_call 60; refine (countRuns_any _ _ _ f _ (h.gr (by repeat (first | exact Gr.refl _ | assumption | exact Dr.gr (by assumption) | refine Gr.alloc ?_ _ | refine Gr.drewN ?_ _ | refine Gr.drew ?_ | refine Gr.trans ?_ (by assumption) | refine Gr.trans ?_ (Dr.gr (by assumption))))) (by omega) hn hcap).mono ?_; rintro e w2 ⟨rfl, hg2⟩; rw [hq]; obtain ⟨ho2, hf2, hs2⟩ := hg2.old))
    go_ret
    exact ⟨ret_int (by rw [E.out]), (by repeat (first | exact Gr.refl _ | assumption | exact Dr.gr (by assumption) | refine Gr.alloc ?_ _ | refine Gr.drewN ?_ _ | refine Gr.drew ?_ | refine Gr.trans ?_ (by assumption) | refine Gr.trans ?_ (Dr.gr (by assumption))))⟩
  · have c1' : ((q : Int) == 1) = false := by simp; omega
    by_cases c2 : n ≤ 2 * q
    · have E : Hid (formF n f = 1) := hide (by unfold formF; rw [hq, if_neg c1, if_pos c2])
      go_enter Tryd.func50, Tryd.ntmps50
      go_wp2_with (first | (go_at_call 58; refine (tmay_any _ _ _ _ _ f _ (h.gr (by repeat (first | exact Gr.refl _ | assumption | exact Dr.gr (by assumption) | refine Gr.alloc ?_ _ | refine Gr.drewN ?_ _ | refine Gr.drew ?_ | refine Gr.trans ?_ (by assumption) | refine Gr.trans ?_ (Dr.gr (by assumption)))))).mono ?_; rintro e w1 ⟨rfl, hg⟩; rw [hm]; obtain ⟨ho, hf, hs⟩ := hg.old; have hz : w.heap.size < w1.heap.size := (by simp only [World.size_alloc] at hs; omega)) | (go_at_call 60; refine (countRuns_any _ _ _ f _ (h.gr (by repeat (first | exact Gr.refl _ | assumption | exact Dr.gr (by assumption) | refine Gr.alloc ?_ _ | refine Gr.drewN ?_ _ | refine Gr.drew ?_ | refine Gr.trans ?_ (by assumption) | refine Gr.trans ?_ (Dr.gr (by assumption))))) (by omega) hn hcap).mono ?_; rintro e w2 ⟨rfl, hg2⟩; rw [hq]; obtain ⟨ho2, hf2, hs2⟩ := hg2.old))
      go_ret
      exact ⟨ret_int (by rw [E.out]), (by repeat (first | exact Gr.refl _ | assumption | exact Dr.gr (by assumption) | refine Gr.alloc ?_ _ | refine Gr.drewN ?_ _ | refine Gr.drew ?_ | refine Gr.trans ?_ (by assumption) | refine Gr.trans ?_ (Dr.gr (by assumption))))⟩
    · have E : Hid (formF n f = 2) := hide (by unfold formF; rw [hq, if_neg c1, if_neg c2])
      go_enter Tryd.func50, Tryd.ntmps50
      go_wp2_with (first | (go_at_call 58; refine (tmay_any _ _ _ _ _ f _ (h.gr (by repeat (first | exact Gr.refl _ | assumption | exact Dr.gr (by assumption) | refine Gr.alloc ?_ _ | refine Gr.drewN ?_ _ | refine Gr.drew ?_ | refine Gr.trans ?_ (by assumption) | refine Gr.trans ?_ (Dr.gr (by assumption)))))).mono ?_; rintro e w1 ⟨rfl, hg⟩; rw [hm]; obtain ⟨ho, hf, hs⟩ := hg.old; have hz : w.heap.size < w1.heap.size := (by simp only [World.size_alloc] at hs; omega)) | (go_at_call 60; refine (countRuns_any _ _ _ f _ (h.gr (by repeat (first | exact Gr.refl _ | assumption | exact Dr.gr (by assumption) | refine Gr.alloc ?_ _ | refine Gr.drewN ?_ _ | refine Gr.drew ?_ | refine Gr.trans ?_ (by assumption) | refine Gr.trans ?_ (Dr.gr (by assumption))))) (by omega) hn hcap).mono ?_; rintro e w2 ⟨rfl, hg2⟩; rw [hq]; obtain ⟨ho2, hf2, hs2⟩ := hg2.old))
      go_ret
      exact ⟨ret_int (by rw [E.out]), (by repeat (first | exact Gr.refl _ | assumption | exact Dr.gr (by assumption) | refine Gr.alloc ?_ _ | refine Gr.drewN ?_ _ | refine Gr.drew ?_ | refine Gr.trans ?_ (by assumption) | refine Gr.trans ?_ (Dr.gr (by assumption))))⟩

set_option maxHeartbeats 1000000 in
theorem put_no (W H : Int) (a : Option Addr) (n cap : Nat) (f : Nat → Int) (w : World) (h : Sl w a n f) (hm : mayTB W H n f = false) :
    Calls Tryd.prog 32 #[.agg #[.int .i64 W, .int .i64 H, .slice a n cap]] w fun e w' => e = .returned (.tuple #[.slice none 0 0, .int .i64 1]) ∧ Gr w w' := by
  go_enter Tryd.func32, Tryd.ntmps32
  go_wp2_with (go_at_call 50; refine (form_no _ _ _ _ _ f _ (h.gr (by repeat (first | exact Gr.refl _ | assumption | exact Dr.gr (by assumption) | refine Gr.alloc ?_ _ | refine Gr.drewN ?_ _ | refine Gr.drew ?_ | refine Gr.trans ?_ (by assumption) | refine Gr.trans ?_ (Dr.gr (by assumption))))) hm).mono ?_; rintro e w' ⟨rfl, hg⟩; obtain ⟨ho, hf, hs⟩ := hg.old)
  go_ret2
  exact ⟨rfl, (by repeat (first | exact Gr.refl _ | assumption | exact Dr.gr (by assumption) | refine Gr.alloc ?_ _ | refine Gr.drewN ?_ _ | refine Gr.drew ?_ | refine Gr.trans ?_ (by assumption) | refine Gr.trans ?_ (Dr.gr (by assumption))))⟩

/-- a list of two bytes -/
theorem RowL.two (w : World) (x y : Int) : RowL (w.alloc (.cells #[.int .u8 x, .int .u8 y] 5)) w.heap.size (.slice (some ⟨w.heap.size, 0, none⟩) 2 2) [x, y] :=
  World.ownsRow_lit (base := w.heap.size) (e := 5) (size := 1) w #[.int .u8 x, .int .u8 y] 2 (Nat.le_refl _) (by unfold maxLen; omega) rfl
theorem RowL.mono {w : World} {base base' : Nat} {v : Value} {L : List Int} (h : RowL w base v L) (hb : base' ≤ base) : RowL w base' v L := own_mono h hb
theorem rowL_plus {w1 u w0 : World} {base B n : Nat} {v' : Value} {f : Nat → Int} {x : Int} {cc : Nat} (h : w1.ownsRow base 5 1 v' (1 + n) (List.map (Value.int .u8) [x] ++ cel .u8 n f)) (hg : u.grownBy w1 (Value.slice (some ⟨B, 0, none⟩) 1 cc).ownBlock) (h0 : Gr w0 u) (hb : w0.heap.size ≤ base) (hB : w0.heap.size ≤ B) :
    ∃ g c, v' = .slice (some ⟨g, 0, none⟩) (x :: lst n f).length c ∧ RowL w1 w0.heap.size (.slice (some ⟨g, 0, none⟩) (x :: lst n f).length c) (x :: lst n f) ∧ Gr w0 w1 := by
  have h1 : RowL w1 base v' (x :: lst n f) := by
    unfold RowL
    rw [List.length_cons, lst_len, Nat.add_comm]
    have e : cel .u8 n f = (lst n f).map (Value.int .u8) := by simp [lst, cel]
    rw [e, ← List.map_append] at h
    exact h
  obtain ⟨g, c, rfl, -, -, -, -⟩ := h1.form (by simp)
  refine ⟨g, c, rfl, h1.mono hb, Gr.grown h0 hg ?_⟩
  intro k hk
  simp [Value.ownBlock] at hk
  omega

set_option maxHeartbeats 2000000 in
theorem put_yes (W H : Int) (a : Option Addr) (n cap : Nat) (f : Nat → Int) (w : World) (h : Sl w a n f) (hn : n ≤ cap) (hcap : cap ≤ maxLen) (hm : mayTB W H n f = true) :
    Calls Tryd.prog 32 #[.agg #[.int .i64 W, .int .i64 H, .slice a n cap]] w fun e w' => (∃ g c, e = .returned (.tuple #[.slice (some ⟨g, 0, none⟩) (putL n f).length c, .int .i64 0]) ∧ OwnB w' w.heap.size g (putL n f).length c (fun i => (putL n f).getD i 0)) ∧ Gr w w' := by
  obtain ⟨i0, hi, hz0, hz1, hz2⟩ := info_parts info_u8
  obtain ⟨n1, n2, -, -⟩ := mayTB_n hm
  have HB := hide (putL_byte h.byte (by omega) n2)
  obtain ⟨b, o, rfl, hB, hc⟩ := h.at (by omega)
  have HC := hide hc
  by_cases c1 : cntF n f 0 = 1
  · have E : Hid (formF n f = 0) := hide (by unfold formF; rw [if_pos c1])
    have P : putL n f = [0, f 0] := by unfold putL; rw [if_pos c1]
    rw [P] at HB ⊢
    have hc0 := hc 0 (by omega)
    rw [Nat.add_zero] at hc0
    clear hc P c1
    go_enter Tryd.func32, Tryd.ntmps32
    go_wp2_with (go_at_call 50; refine (form_yes _ _ _ _ _ f _ (h.gr (by repeat (first | exact Gr.refl _ | assumption | exact Dr.gr (by assumption) | refine Gr.alloc ?_ _ | refine Gr.drewN ?_ _ | refine Gr.drew ?_ | refine Gr.trans ?_ (by assumption) | refine Gr.trans ?_ (Dr.gr (by assumption))))) hn hcap hm).mono ?_; rintro e w1 ⟨rfl, hg⟩; rw [E.out]; obtain ⟨ho, hf, hs⟩ := hg.old; have hz : w.heap.size < w1.heap.size := (by simp only [World.size_alloc] at hs; omega))
    go_ret2
    exact ⟨⟨_, _, rfl, ((RowL.two _ _ _).mono (by have := hg.size; simp only [World.size_alloc] at this; omega)).ownB HB.out⟩, (by repeat (first | exact Gr.refl _ | assumption | exact Dr.gr (by assumption) | refine Gr.alloc ?_ _ | refine Gr.drewN ?_ _ | refine Gr.drew ?_ | refine Gr.trans ?_ (by assumption) | refine Gr.trans ?_ (Dr.gr (by assumption))))⟩
  · by_cases c2 : n ≤ 2 * cntF n f 0
    · have E : Hid (formF n f = 1) := hide (by unfold formF; rw [if_neg c1, if_pos c2])
      have P : putL n f = 1 :: lst n f := by unfold putL; rw [if_neg c1, if_pos c2]
      rw [P] at HB ⊢
      clear hc P c1 c2
      go_enter Tryd.func32, Tryd.ntmps32
      go_wp2_with (first | (go_at_call 50; refine (form_yes _ _ _ _ _ f _ (h.gr (by repeat (first | exact Gr.refl _ | assumption | exact Dr.gr (by assumption) | refine Gr.alloc ?_ _ | refine Gr.drewN ?_ _ | refine Gr.drew ?_ | refine Gr.trans ?_ (by assumption) | refine Gr.trans ?_ (Dr.gr (by assumption))))) hn hcap hm).mono ?_; rintro e w1 ⟨rfl, hg⟩; rw [E.out]; obtain ⟨ho, hf, hs⟩ := hg.old; have hz : w.heap.size < w1.heap.size := (by simp only [World.size_alloc] at hs; omega)) | (at_builtin; refine wpList_append_own _ rfl _ _ 22 rfl w1.heap.size 5 i0 (.int .u8 0) 1 1 Tryd.underlying22 hi hz0 hz1 hz2 rfl (by decide) (.slice (some ⟨w1.heap.size, 0, none⟩) 1 1) 1 (List.map (Value.int .u8) [1]) rfl (RowL.one w1 1) ⟨b, o, none⟩ n cap (cel .u8 n f) rfl (by simp [cel_len]) (cel_at HC.out hB (by repeat (first | exact Gr.refl _ | assumption | exact Dr.gr (by assumption) | refine Gr.alloc ?_ _ | refine Gr.drewN ?_ _ | refine Gr.drew ?_ | refine Gr.trans ?_ (by assumption) | refine Gr.trans ?_ (Dr.gr (by assumption))))) (cel_one _ _ _) (by unfold maxLen; omega) (by omega) (by simp only [World.size_alloc]; omega) ?_; intro v' w2 hown hgrow hnil; obtain ⟨g2, c2, rfl, hrow2, hgr5⟩ := rowL_plus hown hgrow (w0 := w) (by repeat (first | exact Gr.refl _ | assumption | exact Dr.gr (by assumption) | refine Gr.alloc ?_ _ | refine Gr.drewN ?_ _ | refine Gr.drew ?_ | refine Gr.trans ?_ (by assumption) | refine Gr.trans ?_ (Dr.gr (by assumption)))) (by have := hg.size; simp only [World.size_alloc] at this; omega) (by have := hg.size; simp only [World.size_alloc] at this; omega)))
      go_ret2
      exact ⟨⟨_, _, rfl, hrow2.ownB HB.out⟩, hgr5⟩
    · have E : Hid (formF n f = 2) := hide (by unfold formF; rw [if_neg c1, if_neg c2])
      have P : putL n f = 2 :: runsL n f 0 := by unfold putL; rw [if_neg c1, if_neg c2]
      have q := fun u (hg : Gr w u) => putRuns_any (some ⟨b, o, none⟩) n cap f u (h.gr hg) (by omega) hn n2
      rw [← P] at q
      generalize putL n f = L at *
      have HQ := hide q
      clear hc P c1 c2 q
      go_enter Tryd.func32, Tryd.ntmps32
      go_wp2_with (first | (go_at_call 50; refine (form_yes _ _ _ _ _ f _ (h.gr (by repeat (first | exact Gr.refl _ | assumption | exact Dr.gr (by assumption) | refine Gr.alloc ?_ _ | refine Gr.drewN ?_ _ | refine Gr.drew ?_ | refine Gr.trans ?_ (by assumption) | refine Gr.trans ?_ (Dr.gr (by assumption))))) hn hcap hm).mono ?_; rintro e w1 ⟨rfl, hg⟩; rw [E.out]; obtain ⟨ho, hf, hs⟩ := hg.old; have hz : w.heap.size < w1.heap.size := (by simp only [World.size_alloc] at hs; omega)) | (go_at_call 51; refine (HQ.out _ (by repeat (first | exact Gr.refl _ | assumption | exact Dr.gr (by assumption) | refine Gr.alloc ?_ _ | refine Gr.drewN ?_ _ | refine Gr.drew ?_ | refine Gr.trans ?_ (by assumption) | refine Gr.trans ?_ (Dr.gr (by assumption))))).mono ?_; rintro e w2 ⟨⟨g2, c2, rfl, hown2⟩, hg2⟩))
      go_ret2
      exact ⟨⟨_, _, rfl, own_mono hown2.own (by have := hg.size; simp only [World.size_alloc] at this; omega), hown2.byte⟩, (by repeat (first | exact Gr.refl _ | assumption | exact Dr.gr (by assumption) | refine Gr.alloc ?_ _ | refine Gr.drewN ?_ _ | refine Gr.drew ?_ | refine Gr.trans ?_ (by assumption) | refine Gr.trans ?_ (Dr.gr (by assumption))))⟩

set_option maxHeartbeats 2000000 in
theorem rput_any (W H : Int) (a : Option Addr) (n cap : Nat) (f : Nat → Int) (w : World) (h : Sl w a n f) (n1 : 1 ≤ n) (n2 : n ≤ 256) :
    Calls Tryd.prog 40 #[.agg #[.int .i64 W, .int .i64 H, .slice a n cap]] w fun e w' => (∃ g c, e = .returned (.tuple #[.int .i64 (formF n f), .slice (some ⟨g, 0, none⟩) (putL n f).length c]) ∧ OwnB w' w.heap.size g (putL n f).length c (fun i => (putL n f).getD i 0)) ∧ Gr w w' := by
  obtain ⟨i0, hi, hz0, hz1, hz2⟩ := info_parts info_u8
  have HB := hide (putL_byte h.byte (by omega) n2)
  obtain ⟨b, o, rfl, hB, hc⟩ := h.at (by omega)
  have HC := hide hc
  have hlen : (2 :: runsL n f 0).length = 1 + 2 * cntF n f 0 := by rw [List.length_cons, runsL_len, Nat.add_comm]
  have hle := cntF_le n f 0
  have q := fun u (hg : Gr w u) => rruns_any (some ⟨b, o, none⟩) n cap f u (h.gr hg) (by omega) n2
  by_cases c1 : cntF n f 0 = 1
  · have E : formF n f = 0 := by unfold formF; rw [if_pos c1]
    have P : putL n f = [0, f 0] := by unfold putL; rw [if_pos c1]
    rw [P] at HB ⊢
    rw [E]
    have hc0 := hc 0 (by omega)
    rw [Nat.add_zero] at hc0
    rw [hlen, c1] at q
    have HQ := hide q
    clear hc P c1 q E hlen hle
    go_enter Tryd.func40, Tryd.ntmps40
    go_wp2_with (go_at_call 55; refine (HQ.out _ (by repeat (first | exact Gr.refl _ | assumption | exact Dr.gr (by assumption) | refine Gr.alloc ?_ _ | refine Gr.drewN ?_ _ | refine Gr.drew ?_ | refine Gr.trans ?_ (by assumption) | refine Gr.trans ?_ (Dr.gr (by assumption))))).mono ?_; rintro e w1 ⟨⟨g2, c2, rfl, -⟩, hg⟩; obtain ⟨ho, hf, hs⟩ := hg.old; have hz : w.heap.size < w1.heap.size := (by simp only [World.size_alloc] at hs; omega))
    have d3 := ho w.heap.size 2 (by simp only [World.size_alloc]; omega)
    have e0 := cell_gr hc0 (((Gr.refl w).alloc _).trans hg)
    have d4 : w1.cell? ⟨w.heap.size, 2, none⟩ = some (.slice (some ⟨b, o, none⟩) n cap) := by rw [d3]; simp [go_sem]
    have hn0 : 0 < n := by omega
    go_region_held3 (fun u => u.cell? ⟨w.heap.size, 2, none⟩ = some (.slice (some ⟨b, o, none⟩) n cap) ∧ u.cell? ⟨b, o, none⟩ = some (.int .u8 (f 0))) (go_keep) (fail)
    go_wp2
    go_ret2
    exact ⟨⟨_, _, rfl, (((RowL.two _ _ _).gr (Gr.refl _).drew).mono (by have := hg.size; simp only [World.size_alloc] at this; omega)).ownB HB.out⟩, (by repeat (first | exact Gr.refl _ | assumption | exact Dr.gr (by assumption) | refine Gr.alloc ?_ _ | refine Gr.drewN ?_ _ | refine Gr.drew ?_ | refine Gr.trans ?_ (by assumption) | refine Gr.trans ?_ (Dr.gr (by assumption))))⟩
  · by_cases c2 : n ≤ 2 * cntF n f 0
    · have E : formF n f = 1 := by unfold formF; rw [if_neg c1, if_pos c2]
      have P : putL n f = 1 :: lst n f := by unfold putL; rw [if_neg c1, if_pos c2]
      rw [P] at HB ⊢
      rw [E]
      obtain ⟨m, hm⟩ : ∃ m, (2 :: runsL n f 0).length = m := ⟨_, rfl⟩
      rw [hm] at hlen
      have m1 : ((m : Int) == 3) = false := by simp; omega
      rw [hm] at q
      have m2 : ¬ (m : Int) < 1 + (n : Int) := by omega
      have HQ := hide q
      clear hc P c1 q E hm c2 hlen
      go_enter Tryd.func40, Tryd.ntmps40
      go_wp2_with (first | (go_at_call 55; refine (HQ.out _ (by repeat (first | exact Gr.refl _ | assumption | exact Dr.gr (by assumption) | refine Gr.alloc ?_ _ | refine Gr.drewN ?_ _ | refine Gr.drew ?_ | refine Gr.trans ?_ (by assumption) | refine Gr.trans ?_ (Dr.gr (by assumption))))).mono ?_; rintro e w1 ⟨⟨g2, c2, rfl, -⟩, hg⟩; obtain ⟨ho, hf, hs⟩ := hg.old; have hz : w.heap.size < w1.heap.size := (by simp only [World.size_alloc] at hs; omega)) | (at_builtin; refine wpList_append_own _ rfl _ _ 22 rfl w1.heap.size 5 i0 (.int .u8 0) 1 1 Tryd.underlying22 hi hz0 hz1 hz2 rfl (by decide) (.slice (some ⟨w1.heap.size, 0, none⟩) 1 1) 1 (List.map (Value.int .u8) [1]) rfl (RowL.one w1 1) ⟨b, o, none⟩ n cap (cel .u8 n f) rfl (by simp [cel_len]) (cel_at HC.out hB (by repeat (first | exact Gr.refl _ | assumption | exact Dr.gr (by assumption) | refine Gr.alloc ?_ _ | refine Gr.drewN ?_ _ | refine Gr.drew ?_ | refine Gr.trans ?_ (by assumption) | refine Gr.trans ?_ (Dr.gr (by assumption))))) (cel_one _ _ _) (by unfold maxLen; omega) (by omega) (by simp only [World.size_alloc]; omega) ?_; intro v' w2 hown hgrow hnil; obtain ⟨g3, c3, rfl, hrow2, hgr5⟩ := rowL_plus hown hgrow (w0 := w) (by repeat (first | exact Gr.refl _ | assumption | exact Dr.gr (by assumption) | refine Gr.alloc ?_ _ | refine Gr.drewN ?_ _ | refine Gr.drew ?_ | refine Gr.trans ?_ (by assumption) | refine Gr.trans ?_ (Dr.gr (by assumption)))) (by omega) (by omega)))
      go_ret2
      exact ⟨⟨_, _, rfl, hrow2.ownB HB.out⟩, hgr5⟩
    · have E : formF n f = 2 := by unfold formF; rw [if_neg c1, if_neg c2]
      have P : putL n f = 2 :: runsL n f 0 := by unfold putL; rw [if_neg c1, if_neg c2]
      rw [← P] at q hlen
      rw [E]
      generalize putL n f = L at *
      have m1 : ((L.length : Int) == 3) = false := by simp; omega
      have m2 : (L.length : Int) < 1 + (n : Int) := by omega
      have HQ := hide q
      clear hc P c1 q E c2 hlen
      go_enter Tryd.func40, Tryd.ntmps40
      go_wp2_with (go_at_call 55; refine (HQ.out _ (by repeat (first | exact Gr.refl _ | assumption | exact Dr.gr (by assumption) | refine Gr.alloc ?_ _ | refine Gr.drewN ?_ _ | refine Gr.drew ?_ | refine Gr.trans ?_ (by assumption) | refine Gr.trans ?_ (Dr.gr (by assumption))))).mono ?_; rintro e w1 ⟨⟨g2, c2, rfl, hown2⟩, hg⟩; obtain ⟨ho, hf, hs⟩ := hg.old; have hz : w.heap.size < w1.heap.size := (by simp only [World.size_alloc] at hs; omega))
      go_ret2
      exact ⟨⟨_, _, rfl, own_mono hown2.own (by simp only [World.size_alloc]; omega), hown2.byte⟩, (by repeat (first | exact Gr.refl _ | assumption | exact Dr.gr (by assumption) | refine Gr.alloc ?_ _ | refine Gr.drewN ?_ _ | refine Gr.drew ?_ | refine Gr.trans ?_ (by assumption) | refine Gr.trans ?_ (Dr.gr (by assumption))))⟩

end Go.Proofs.YtakmiafloolpmaaDoor
