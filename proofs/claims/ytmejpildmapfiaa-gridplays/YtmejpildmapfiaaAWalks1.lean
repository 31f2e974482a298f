/- What atlas.May, sectors, Same and the document's MayMap, SameMap, Own, Made answer, of maps in memory: the plain functions; nothing that was there is written. -/
import Derived.Test.YtmejpildmapfiaaSMath
namespace Go.Proofs.Ytmejpildmapfiaa
open Go.RowKit
set_option maxRecDepth 20000

set_option maxHeartbeats 1000000 in
theorem amay_any (W H : Int) (a : Option Addr) (n cap : Nat) (f : Nat → Int) (w : World) (h : Sl w a n f) :
    Calls Try.prog 30 #[.agg #[.int .i64 W, .int .i64 H, .slice a n cap]] w fun e w' => e = .returned (.bool (mayM W H n f)) ∧ Gr w w' := by
  cases hW : mayB W H
  · go_enter Try.func30, Try.ntmps30
    go_wp2_with (go_at_call 44; refine (may_any _ _ _).mono ?_; rintro e w' ⟨rfl, hd⟩; rw [hW])
    go_ret
    exact ⟨ret_bool (by simp [mayM, hW]), (by repeat (first | exact Gr.refl _ | assumption | exact Dr.gr (by assumption) | refine Gr.alloc ?_ _ | refine Gr.drewN ?_ _ | refine Gr.drew ?_ | refine Gr.trans ?_ (by assumption) | refine Gr.trans ?_ (Dr.gr (by assumption))))⟩
  have m := may_mul hW
  by_cases hn : (n : Int) = W * H
  · have HN := hide hn
    have hn' : ((n : Int) == W * H) = true := by simp [hn]
    clear hn
    go_enter Try.func30, Try.ntmps30
    go_wp2_with (first | (go_at_call 44; refine (may_any _ _ _).mono ?_; rintro e w1 ⟨rfl, hd⟩; rw [hW]; obtain ⟨ho, hf, hs⟩ := (Dr.gr hd).old) | (go_at_call 45; refine (indexByte_any _ _ _ f _ (h.gr (by repeat (first | exact Gr.refl _ | assumption | exact Dr.gr (by assumption) | refine Gr.alloc ?_ _ | refine Gr.drewN ?_ _ | refine Gr.drew ?_ | refine Gr.trans ?_ (by assumption) | refine Gr.trans ?_ (Dr.gr (by assumption)))))).mono ?_; rintro e w' ⟨⟨r, rfl, hr⟩, rfl⟩))
    go_ret
    exact ⟨ret_bool (by simp only [mayM, hW, HN.out, decide_true, Bool.and_true, Bool.true_and]), (by repeat (first | exact Gr.refl _ | assumption | exact Dr.gr (by assumption) | refine Gr.alloc ?_ _ | refine Gr.drewN ?_ _ | refine Gr.drew ?_ | refine Gr.trans ?_ (by assumption) | refine Gr.trans ?_ (Dr.gr (by assumption))))⟩
  · have hn' : ((n : Int) == W * H) = false := by simp [hn]
    go_enter Try.func30, Try.ntmps30
    go_wp2_with (go_at_call 44; refine (may_any _ _ _).mono ?_; rintro e w1 ⟨rfl, hd⟩; rw [hW]; obtain ⟨ho, hf, hs⟩ := (Dr.gr hd).old)
    go_ret
    exact ⟨ret_bool (by simp [mayM, hW, hn]), (by repeat (first | exact Gr.refl _ | assumption | exact Dr.gr (by assumption) | refine Gr.alloc ?_ _ | refine Gr.drewN ?_ _ | refine Gr.drew ?_ | refine Gr.trans ?_ (by assumption) | refine Gr.trans ?_ (Dr.gr (by assumption))))⟩

set_option maxHeartbeats 1000000 in
theorem rmayM_any (W H : Int) (a : Option Addr) (n cap : Nat) (f : Nat → Int) (w : World) (h : Sl w a n f) :
    Calls Try.prog 27 #[.agg #[.int .i64 W, .int .i64 H, .slice a n cap]] w fun e w' => e = .returned (.bool (mayM W H n f)) ∧ Gr w w' := by
  cases hW : mayB W H
  · go_enter Try.func27, Try.ntmps27
    go_wp2_with (go_at_call 34; refine (rmay_any _ _ _).mono ?_; rintro e w' ⟨rfl, hd⟩; rw [hW])
    go_ret
    exact ⟨ret_bool (by simp [mayM, hW]), (by repeat (first | exact Gr.refl _ | assumption | exact Dr.gr (by assumption) | refine Gr.alloc ?_ _ | refine Gr.drewN ?_ _ | refine Gr.drew ?_ | refine Gr.trans ?_ (by assumption) | refine Gr.trans ?_ (Dr.gr (by assumption))))⟩
  have m := may_mul hW
  by_cases hn : (n : Int) = W * H
  · have hn2 : n ≤ maxLen := by unfold maxLen; omega
    have HN := hide hn
    have hn' : ((n : Int) == W * H) = true := by simp [hn]
    clear hn
    go_enter Try.func27, Try.ntmps27
    go_wp2_with (first | (go_at_call 34; refine (rmay_any _ _ _).mono ?_; rintro e w1 ⟨rfl, hd⟩; rw [hW]; obtain ⟨ho, hf, hs⟩ := (Dr.gr hd).old) | (go_at_call 43; refine (full_any _ _ _ f _ (h.gr (by repeat (first | exact Gr.refl _ | assumption | exact Dr.gr (by assumption) | refine Gr.alloc ?_ _ | refine Gr.drewN ?_ _ | refine Gr.drew ?_ | refine Gr.trans ?_ (by assumption) | refine Gr.trans ?_ (Dr.gr (by assumption))))) hn2).mono ?_; rintro e w' ⟨rfl, rfl⟩))
    go_ret
    exact ⟨ret_bool (by simp only [mayM, hW, HN.out, decide_true, Bool.and_true, Bool.true_and]), (by repeat (first | exact Gr.refl _ | assumption | exact Dr.gr (by assumption) | refine Gr.alloc ?_ _ | refine Gr.drewN ?_ _ | refine Gr.drew ?_ | refine Gr.trans ?_ (by assumption) | refine Gr.trans ?_ (Dr.gr (by assumption))))⟩
  · have hn' : ((n : Int) == W * H) = false := by simp [hn]
    go_enter Try.func27, Try.ntmps27
    go_wp2_with (go_at_call 34; refine (rmay_any _ _ _).mono ?_; rintro e w1 ⟨rfl, hd⟩; rw [hW]; obtain ⟨ho, hf, hs⟩ := (Dr.gr hd).old)
    go_ret
    exact ⟨ret_bool (by simp [mayM, hW, hn]), (by repeat (first | exact Gr.refl _ | assumption | exact Dr.gr (by assumption) | refine Gr.alloc ?_ _ | refine Gr.drewN ?_ _ | refine Gr.drew ?_ | refine Gr.trans ?_ (by assumption) | refine Gr.trans ?_ (Dr.gr (by assumption))))⟩

set_option maxHeartbeats 1000000 in
theorem rsameM_any (W H W' H' : Int) (a b : Option Addr) (n c m d : Nat) (f g : Nat → Int) (w : World) (h : Sl w a n f) (k : Sl w b m g) :
    Calls Try.prog 24 #[.agg #[.int .i64 W, .int .i64 H, .slice a n c], .agg #[.int .i64 W', .int .i64 H', .slice b m d]] w fun e w' => e = .returned (.bool (sameTB W H n f W' H' m g)) ∧ Gr w w' := by
  by_cases h1 : W = W'
  · have t1 : (W == W') = true := by simp [h1]
    by_cases h2 : H = H'
    · have t2 : (H == H') = true := by simp [h2]
      have H1 := hide h1
      have H2 := hide h2
      clear h1 h2
      go_enter Try.func24, Try.ntmps24
      go_wp2_with (go_at_call 40; refine (rbytes_any _ _ _ _ _ _ f g _ (h.gr (by repeat (first | exact Gr.refl _ | assumption | exact Dr.gr (by assumption) | refine Gr.alloc ?_ _ | refine Gr.drewN ?_ _ | refine Gr.drew ?_ | refine Gr.trans ?_ (by assumption) | refine Gr.trans ?_ (Dr.gr (by assumption))))) (k.gr (by repeat (first | exact Gr.refl _ | assumption | exact Dr.gr (by assumption) | refine Gr.alloc ?_ _ | refine Gr.drewN ?_ _ | refine Gr.drew ?_ | refine Gr.trans ?_ (by assumption) | refine Gr.trans ?_ (Dr.gr (by assumption)))))).mono ?_; rintro e w' ⟨rfl, rfl⟩)
      go_ret
      exact ⟨ret_bool (by simp [sameTB, H1.out, H2.out]), (by repeat (first | exact Gr.refl _ | assumption | exact Dr.gr (by assumption) | refine Gr.alloc ?_ _ | refine Gr.drewN ?_ _ | refine Gr.drew ?_ | refine Gr.trans ?_ (by assumption) | refine Gr.trans ?_ (Dr.gr (by assumption))))⟩
    · have t2 : (H == H') = false := by simp [h2]
      have H1 := hide h1
      have H2 := hide h2
      clear h1 h2
      go_enter Try.func24, Try.ntmps24
      go_wp2
      go_ret
      exact ⟨ret_bool (by simp [sameTB, H2.out]), (by repeat (first | exact Gr.refl _ | assumption | exact Dr.gr (by assumption) | refine Gr.alloc ?_ _ | refine Gr.drewN ?_ _ | refine Gr.drew ?_ | refine Gr.trans ?_ (by assumption) | refine Gr.trans ?_ (Dr.gr (by assumption))))⟩
  · have t1 : (W == W') = false := by simp [h1]
    have H1 := hide h1
    clear h1
    go_enter Try.func24, Try.ntmps24
    go_wp2
    go_ret
    exact ⟨ret_bool (by simp [sameTB, H1.out]), (by repeat (first | exact Gr.refl _ | assumption | exact Dr.gr (by assumption) | refine Gr.alloc ?_ _ | refine Gr.drewN ?_ _ | refine Gr.drew ?_ | refine Gr.trans ?_ (by assumption) | refine Gr.trans ?_ (Dr.gr (by assumption))))⟩

set_option maxHeartbeats 2000000 in
theorem ownMap_any (W H : Int) (a : Option Addr) (n cap : Nat) (f : Nat → Int) (w : World) (h : Sl w a n f) (hbig : n ≤ 140737488355328) (ha : a = none → n = 0 ∧ cap = 0) :
    Calls Try.prog 26 #[.agg #[.int .i64 W, .int .i64 H, .slice a n cap]] w fun e w' => (∃ g c', e = .returned (.agg #[.int .i64 W, .int .i64 H, .slice (some ⟨g, 0, none⟩) n c']) ∧ OwnB w' w.heap.size g n c' f) ∧ Gr w w' := by
  obtain ⟨i0, hi, hz0, hz1, hz2⟩ := info_parts info_u8
  have hbyte := hide h.byte
  cases a with
  | none =>
    obtain ⟨rfl, rfl⟩ := ha rfl
    have h0 : ((((w.alloc (.cells #[.int .i64 W, .int .i64 H, .slice (some ⟨w.heap.size + 1 + 1, 0, none⟩) 0 0] 25)).alloc (.cells #[.int .i64 W, .int .i64 H, .slice (some ⟨w.heap.size + 1 + 1, 0, none⟩) 0 0] 25)).alloc (.cells #[] 5))).ownsRow w.heap.size 5 1 (.slice (some ⟨w.heap.size + 1 + 1, 0, none⟩) 0 0) 0 [] := by
      have := World.ownsRow_made (base := w.heap.size) (e := 5) (size := 1) ((w.alloc (.cells #[.int .i64 W, .int .i64 H, .slice (some ⟨w.heap.size + 1 + 1, 0, none⟩) 0 0] 25)).alloc (.cells #[.int .i64 W, .int .i64 H, .slice (some ⟨w.heap.size + 1 + 1, 0, none⟩) 0 0] 25)) #[] 0 (by simp only [World.size_alloc]; omega) (Nat.zero_le _) rfl
      simpa only [World.size_alloc] using this
    have H0 := hide h0
    clear h0
    go_enter Try.func26, Try.ntmps26
    go_wp2
    exact bodyPost_ret (v := .agg #[.int .i64 W, .int .i64 H, .slice (some ⟨w.heap.size + 1 + 1, 0, none⟩) 0 0]) (by simp [results, Try.results26, go_sem]) rfl ⟨⟨_, _, rfl, H0.out, hbyte.out⟩, (by repeat (first | exact Gr.refl _ | assumption | exact Dr.gr (by assumption) | refine Gr.alloc ?_ _ | refine Gr.drewN ?_ _ | refine Gr.drew ?_ | refine Gr.trans ?_ (by assumption) | refine Gr.trans ?_ (Dr.gr (by assumption))))⟩
  | some ad =>
    obtain ⟨ad', hc⟩ : ∃ ad' : Addr, some ad = some ad' ∧ ∀ w', Gr w w' → ∀ j u, (cel .u8 n f)[j]? = some u → w'.cell? (ad'.add j) = some u := by
      rcases h.has with h0 | ⟨b, o, e, hB, hc⟩
      · exact ⟨ad, rfl, fun w' g j u hj => by subst h0; simp [cel] at hj⟩
      · exact ⟨⟨b, o, none⟩, e, fun w' g => cel_at hc hB g⟩
    obtain ⟨e, hc⟩ := hc
    cases e
    have HC := hide hc
    clear hc
    have h0 : (((w.alloc (.cells #[.int .i64 W, .int .i64 H, .slice (some ad) n cap] 25)).alloc (.cells #[.int .i64 0, .int .i64 0, .slice none 0 0] 25)).alloc (.cells #[] 5)).ownsRow (w.heap.size + 2) 5 1 (.slice (some ⟨w.heap.size + 1 + 1, 0, none⟩) 0 0) 0 [] := by
      have := World.ownsRow_made (base := w.heap.size + 2) (e := 5) (size := 1) ((w.alloc (.cells #[.int .i64 W, .int .i64 H, .slice (some ad) n cap] 25)).alloc (.cells #[.int .i64 0, .int .i64 0, .slice none 0 0] 25)) #[] 0 (by simp only [World.size_alloc]; omega) (Nat.zero_le _) rfl
      simpa only [World.size_alloc] using this
    have H0 := hide h0
    clear h0
    go_enter Try.func26, Try.ntmps26
    go_wp2_with (at_builtin; go_must (refine wpList_append_own _ rfl _ _ 22 rfl (w.heap.size + 2) 5 i0 (.int .u8 0) 1 1 Try.underlying22 hi hz0 hz1 hz2 rfl (by decide) (.slice (some ⟨w.heap.size + 1 + 1, 0, none⟩) 0 0) _ _ rfl H0.out ad n cap (cel .u8 n f) rfl (by simp [cel_len]) (HC.out _ (by repeat (first | exact Gr.refl _ | assumption | exact Dr.gr (by assumption) | refine Gr.alloc ?_ _ | refine Gr.drewN ?_ _ | refine Gr.drew ?_ | refine Gr.trans ?_ (by assumption) | refine Gr.trans ?_ (Dr.gr (by assumption))))) (cel_one _ _ _) (by unfold maxLen; omega) (by omega) (by simp only [World.size_alloc]; omega) ?_; intro v' w1 hown hgrow hnil); go_must (have hgr := Gr.grown (a := (w.alloc (.cells #[.int .i64 W, .int .i64 H, .slice (some ad) n cap] 25)).alloc (.cells #[.int .i64 0, .int .i64 0, .slice none 0 0] 25)) (by repeat (first | exact Gr.refl _ | assumption | exact Dr.gr (by assumption) | refine Gr.alloc ?_ _ | refine Gr.drewN ?_ _ | refine Gr.drew ?_ | refine Gr.trans ?_ (by assumption) | refine Gr.trans ?_ (Dr.gr (by assumption)))) hgrow (fun k hk => (by have hk' : w.heap.size + 1 + 1 = k := Option.some.inj hk; simp only [World.size_alloc]; omega))); obtain ⟨ho, hf, hs⟩ := hgr.old; go_must (obtain ⟨g, c', rfl, hown', hge⟩ := own_some hown hnil (by simp)); clear hown hnil; go_must (have hcB : (w1.setCell ⟨w.heap.size, 2, none⟩ (.slice (some ⟨g, 0, none⟩) n c')).cell? ⟨w.heap.size, 2, none⟩ = some (.slice (some ⟨g, 0, none⟩) n c') := World.cell?_setCell_same _ _ _ (u := .slice (some ad) n cap) (by rw [ho _ _ (by simp only [World.size_alloc]; omega)]; simp [go_sem])))
    exact bodyPost_ret (v := .agg #[.int .i64 W, .int .i64 H, .slice (some ⟨g, 0, none⟩) n c']) (by simp [results, Try.results26, go_sem, ho]) rfl ⟨⟨g, c', rfl, ownTile_end hbyte.out hown' (by omega) _ _ _ _⟩, (by repeat (first | exact Gr.refl _ | assumption | exact Dr.gr (by assumption) | refine Gr.alloc ?_ _ | refine Gr.drewN ?_ _ | refine Gr.drew ?_ | (refine Gr.set ?_ (by first | exact Nat.le_refl _ | exact Nat.le_succ _ | (show _ ≤ _; omega) | (simp only [World.size_alloc] at *; omega)) _) | refine Gr.trans ?_ (by assumption) | refine Gr.trans ?_ (Dr.gr (by assumption))))⟩

set_option maxHeartbeats 4000000 in
set_option maxRecDepth 20000 in
theorem made_any (x y : Int) (ad : Option Addr) (n cap : Nat) (f : Nat → Int) (w : World) (h : Sl w ad n f) (hn : n ≤ maxLen) :
    Calls Try.prog 8 #[.int .i64 x, .int .i64 y, .slice ad n cap] w fun e w' => (∃ g c' N : Nat, e = .returned (.agg #[.int .i64 (withinF x 1 40), .int .i64 (withinF y 1 40), .slice (some ⟨g, 0, none⟩) N c']) ∧ (N : Int) = withinF x 1 40 * withinF y 1 40 ∧ OwnB w' w.heap.size g N c' (madeF n f)) ∧ Gr w w' := by
  obtain ⟨i0, hi, hz0, hz1, hz2⟩ := info_parts info_u8
  have HB : Hid (∀ i, 1 ≤ madeF n f i ∧ madeF n f i ≤ 255) := hide (madeF_bd h.byte)
  unfold maxLen at hn
  obtain ⟨W, hW⟩ : ∃ W, W = withinF x 1 40 := ⟨_, rfl⟩
  obtain ⟨H, hH⟩ : ∃ H, H = withinF y 1 40 := ⟨_, rfl⟩
  have xb := within_bd x 1 40 (by omega)
  have yb := within_bd y 1 40 (by omega)
  rw [← hW] at xb ⊢
  rw [← hH] at yb ⊢
  have HW := hide hW
  have HH := hide hH
  clear hW hH
  have mb := mul_bd (w := W) (h := H) (W := 40) (H := 40) (by omega) (by omega) (by omega) (by omega)
  have mc := Int.mul_le_mul xb.1 yb.1 (by omega) (by omega : (0 : Int) ≤ W)
  obtain ⟨N, hN⟩ : ∃ N : Nat, W * H = N := ⟨(W * H).toNat, by omega⟩
  have hN1 : 1 ≤ N ∧ N ≤ 1600 := by omega
  go_enter Try.func8, Try.ntmps8
  go_wp2_with fail
  refine (within_st _ _ _ _ (by omega) (by omega) (by omega)).mono ?_
  rintro e w1 ⟨rfl, rfl⟩
  rw [← HW.out]
  go_wp2_with fail
  refine (within_st _ _ _ _ (by omega) (by omega) (by omega)).mono ?_
  rintro e w1 ⟨rfl, rfl⟩
  rw [← HH.out]
  go_wp2_with fail
  have s0 : ((w.alloc (.cells #[.int .i64 0, .int .i64 0, .slice none 0 0] 25)).alloc (.cells #[.int .i64 W, .int .i64 H, .slice none 0 0] 25)).rowIs (w.heap.size + 1) 25 3 (tri (.int .i64 W) (.int .i64 H) (.slice none 0 0)) := by
    have := tri_alloc (w.alloc (.cells #[.int .i64 0, .int .i64 0, .slice none 0 0] 25)) (.int .i64 W) (.int .i64 H) (.slice none 0 0) 25
    rwa [World.size_alloc] at this
  have s1 := (tri_alloc w (.int .i64 0) (.int .i64 0) (.slice none 0 0) 25).alloc (.cells #[.int .i64 W, .int .i64 H, .slice none 0 0] 25)
  go_loopw [8] (fun i u => ∃ (k : Nat) (a0 : Option Addr) (c0 : Nat), k ≤ N ∧ i = .int .i64 k ∧ u.ownsRow (w.heap.size + 2) 5 1 (.slice a0 k c0) k (cel .u8 k (madeF n f)) ∧ u.rowIs (w.heap.size + 1) 25 3 (tri (.int .i64 W) (.int .i64 H) (.slice a0 k c0)) ∧ u.rowIs w.heap.size 25 3 (tri (.int .i64 0) (.int .i64 0) (.slice none 0 0)) ∧ Gr w u) (fun i _ => N - (intOf i).toNat)
  case atStart => exact ⟨0, none, 0, Nat.zero_le _, rfl, World.ownsRow_nil _ _ _ _, s0, s1, (by repeat (first | exact Gr.refl _ | assumption | exact Dr.gr (by assumption) | refine Gr.alloc ?_ _ | refine Gr.drewN ?_ _ | refine Gr.drew ?_ | refine Gr.trans ?_ (by assumption) | refine Gr.trans ?_ (Dr.gr (by assumption))))⟩
  case round =>
    clear s0 s1
    obtain ⟨k, a0, c0, hk, rfl, hown, hr1, hr0, hgr⟩ := hrel
    have c1 := hr1.cell (i := 0) (by omega)
    have c2 := hr1.cell (i := 1) (by omega)
    have c3 := hr1.cell (i := 2) (by omega)
    have f3 := hr1.frozen 2
    rw [tri_0] at c1
    rw [tri_1] at c2
    rw [tri_2] at c3
    have hsz := hr1.lt
    have hsz0 := hr0.lt
    by_cases hlt : k < N
    · by_cases hn0 : n = 0
      · subst hn0
        have hb := HB.out k
        obtain ⟨p, hp1⟩ : ∃ p : Int, p = 1 := ⟨_, rfl⟩
        have E : Hid (madeF 0 f k = costF p) := hide (by rw [hp1]; simp [madeF])
        have hp : 0 ≤ p ∧ p ≤ 255 := by omega
        have HP := hide hp1.symm
        clear hp1
        have HO := hide hown
        have HR1 := hide hr1
        have HR0 := hide hr0
        clear hown hr1 hr0
        go_wp2
        rw [HP.out]
        go_region_law (first | (refine step_append_own rfl (.tmp 41) (.tmp 44) 22 rfl (w.heap.size + 2) 5 i0 (.int .u8 0) 1 1 Try.underlying22 hi hz0 hz1 hz2 rfl (by decide) (.slice a0 k c0) k _ (by simp [Act.eval]) (own_gr HO.out (by repeat (first | exact Gr.refl _ | assumption | exact Dr.gr (by assumption) | refine Gr.alloc ?_ _ | refine Gr.drewN ?_ _ | refine Gr.drew ?_ | refine Gr.trans ?_ (by assumption) | refine Gr.trans ?_ (Dr.gr (by assumption))))) ⟨wr.heap.size, 0, none⟩ 1 1 [.int .u8 (costF p)] (by simp [Act.eval]) rfl (alloc_one wr _ _) (by simp [Value.oneCell']) (by unfold maxLen; omega) (by omega) (Nat.le_trans (show w.heap.size + 2 ≤ wr.heap.size + 1 by have := HR1.out.lt; omega) (Nat.le_of_eq (World.size_alloc wr _).symm)) ?_; intro v' w1 hown' hgrow; obtain ⟨a1, c1', rfl, hown1, hq1, hq0, hgr1⟩ := made_step HO.out HR1.out HR0.out hgr rfl (by repeat (first | exact Gr.refl _ | assumption | exact Dr.gr (by assumption) | refine Gr.alloc ?_ _ | refine Gr.drewN ?_ _ | refine Gr.drew ?_ | refine Gr.trans ?_ (by assumption) | refine Gr.trans ?_ (Dr.gr (by assumption)))) hown' hgrow E.out; have d3 := hq1.cell (i := 2) (by omega); rw [tri_2] at d3; have g3 := hq1.frozen 2; clear hown' hgrow) | (go_simp; go_wp2_with (go_at_call 29; refine (cost_any _ _ hp).mono ?_; rintro e w' ⟨rfl, rfl⟩)))
        all_goals
          go_wp2
          go_roundw
          case rel => exact ⟨k + 1, a1, c1', by omega, by go_num, made_next hown1 hq1 hq0 hgr1 rfl⟩
          case measure => simp [intOf]; omega
      · obtain ⟨b, o, rfl, hB, hc⟩ := h.at (by omega)
        obtain ⟨q, hq⟩ : ∃ q : Nat, q = (k + k / n * 5) % n := ⟨_, rfl⟩
        have hqn : q < n := by rw [hq]; exact Nat.mod_lt _ (by omega)
        obtain ⟨p, hp1⟩ : ∃ p : Int, p = f q := ⟨_, rfl⟩
        have E : Hid (madeF n f k = costF p) := hide (by rw [hp1, hq]; simp [madeF, hn0])
        have hp : 0 ≤ p ∧ p ≤ 255 := by rw [hp1]; exact h.byte q hqn
        have hcq : wr.cell? ⟨b, o + q, none⟩ = some (.int .u8 p) := by rw [hgr.cell b _ hB, hc q hqn, hp1]
        have hqI : ((k : Int) + (k : Int) / (n : Int) * 5) % (n : Int) = (q : Int) := by rw [hq]; push_cast; rfl
        have hd1 : 0 ≤ (k : Int) / (n : Int) := Int.ediv_nonneg (by omega) (by omega)
        have hd2 : (k : Int) / (n : Int) ≤ k := Int.ediv_le_self _ (by omega)
        have HO := hide hown
        have HR1 := hide hr1
        have HR0 := hide hr0
        have hn1 : ¬ (n : Int) = 0 := by omega
        clear hown hr1 hr0 hc hp1 hq hn0
        go_wp2
        go_region_law (first | (refine step_append_own rfl (.tmp 41) (.tmp 44) 22 rfl (w.heap.size + 2) 5 i0 (.int .u8 0) 1 1 Try.underlying22 hi hz0 hz1 hz2 rfl (by decide) (.slice a0 k c0) k _ (by simp [Act.eval]) (own_gr HO.out (by repeat (first | exact Gr.refl _ | assumption | exact Dr.gr (by assumption) | refine Gr.alloc ?_ _ | refine Gr.drewN ?_ _ | refine Gr.drew ?_ | refine Gr.trans ?_ (by assumption) | refine Gr.trans ?_ (Dr.gr (by assumption))))) ⟨wr.heap.size, 0, none⟩ 1 1 [.int .u8 (costF p)] (by simp [Act.eval]) rfl (alloc_one wr _ _) (by simp [Value.oneCell']) (by unfold maxLen; omega) (by omega) (Nat.le_trans (show w.heap.size + 2 ≤ wr.heap.size + 1 by have := HR1.out.lt; omega) (Nat.le_of_eq (World.size_alloc wr _).symm)) ?_; intro v' w1 hown' hgrow; obtain ⟨a1, c1', rfl, hown1, hq1, hq0, hgr1⟩ := made_step HO.out HR1.out HR0.out hgr rfl (by repeat (first | exact Gr.refl _ | assumption | exact Dr.gr (by assumption) | refine Gr.alloc ?_ _ | refine Gr.drewN ?_ _ | refine Gr.drew ?_ | refine Gr.trans ?_ (by assumption) | refine Gr.trans ?_ (Dr.gr (by assumption)))) hown' hgrow E.out; have d3 := hq1.cell (i := 2) (by omega); rw [tri_2] at d3; have g3 := hq1.frozen 2; clear hown' hgrow) | (go_simp; go_wp2_with (go_at_call 29; refine (cost_any _ _ hp).mono ?_; rintro e w' ⟨rfl, rfl⟩)))
        all_goals
          go_wp2
          go_roundw
          case rel => exact ⟨k + 1, a1, c1', by omega, by go_num, made_next hown1 hq1 hq0 hgr1 rfl⟩
          case measure => simp [intOf]; omega
    · have hkN : k = N := by omega
      subst hkN
      obtain ⟨g, rfl, hend⟩ := made_end hown (by omega) HB.out (Nat.le_refl _) (.int .i64 W) (.int .i64 H) (.slice a0 k c0)
      have e1 := hr0.cell (i := 0) (by omega)
      have e2 := hr0.cell (i := 1) (by omega)
      have e3 := hr0.cell (i := 2) (by omega)
      have j1 := hr0.frozen 0
      have j2 := hr0.frozen 1
      have j3 := hr0.frozen 2
      rw [tri_0] at e1
      rw [tri_1] at e2
      rw [tri_2] at e3
      clear hr0 hr1 hown
      go_wp2
      exact bodyPost_ret (v := .agg #[.int .i64 W, .int .i64 H, .slice (some ⟨g, 0, none⟩) k c0]) (by simp [results, Try.results8, go_sem, e1, e2, e3]) rfl ⟨⟨g, c0, k, rfl, hN.symm, hend⟩, (by repeat (first | exact Gr.refl _ | assumption | exact Dr.gr (by assumption) | refine Gr.alloc ?_ _ | refine Gr.drewN ?_ _ | refine Gr.drew ?_ | (refine Gr.set ?_ (by first | exact Nat.le_refl _ | exact Nat.le_succ _ | (show _ ≤ _; omega) | (simp only [World.size_alloc] at *; omega)) _) | refine Gr.trans ?_ (by assumption) | refine Gr.trans ?_ (Dr.gr (by assumption))))⟩

end Go.Proofs.Ytmejpildmapfiaa
