/- The document's Dir and Field. No condition. -/
import Derived.Test.YtlnbolaaaahoaaaFTold10
import Derived.Test.YtlnbolaaaahoaaaFBest10
import Derived.Test.YtlnbolaaaahoaaaXRef9
import Derived.Deep.RegionLaw
namespace Go.Proofs.Ytlnbolaaaahoaaa
open Go.RowKit
set_option maxRecDepth 20000

/-- the document's word for a side: it leads out to a seed, or on to an open cell -/
theorem go_doc {nb : Int → Int → Int} {f F : Nat → Int} {n : Nat} {K : Int} {L : List Sd} (hg : Gph nb f n) (hs : Sds f n K L) (h : Sprd nb f n L F) {c : Nat} (hc : c < n) (hF : F c < 1099511627776) {s : Int} (s0 : 0 ≤ s) (s3 : s ≤ 3) :
    (nb c s < 0 → (goF nb f F L c s = F c ↔ (bst INF (c : Int) s L).1 = F c)) ∧ (∀ m : Nat, nb c s = (m : Int) → (goF nb f F L c s = F m + f m) ∧ m < n ∧ (f m = 255 → F m + f m ≠ F c)) := by
  have e1 : nxF nb c s = nb c s := by unfold nxF; rw [if_neg (by omega)]
  refine ⟨fun hn => ?_, fun m hm => ?_⟩
  · unfold goF
    rw [e1, if_pos hn]
  · have hmn := (hg.sym c m s s0 s3 hm hc).1
    refine ⟨?_, hmn, fun hw => ?_⟩
    · unfold goF
      rw [e1, hm, if_neg (by omega), Int.toNat_natCast]
    · have := h.wall hs hmn hw
      omega
theorem dirF_first {nb : Int → Int → Int} {f F : Nat → Int} {L : List Sd} {c : Nat} (hF : F c ≠ 1099511627776) (h4 : goF nb f F L c 4 ≠ F c) {j : Nat} (hj : j ≤ 3) (hs : ∀ s : Nat, s < j → goF nb f F L c (s : Int) ≠ F c) (he : goF nb f F L c (j : Int) = F c) : dirF nb f F L c = (j : Int) := by
  have k : ∀ s : Nat, s < j → ∀ i : Int, i = (s : Int) → goF nb f F L c i ≠ F c := fun s hs' i e => by rw [e]; exact hs s hs'
  unfold dirF
  rw [if_neg hF, if_neg h4]
  rcases (by omega : j = 0 ∨ j = 1 ∨ j = 2 ∨ j = 3) with rfl | rfl | rfl | rfl
  · rw [if_pos (by exact he)]; rfl
  · rw [if_neg (k 0 (by omega) 0 rfl), if_pos (by exact he)]; rfl
  · rw [if_neg (k 0 (by omega) 0 rfl), if_neg (k 1 (by omega) 1 rfl), if_pos (by exact he)]; rfl
  · rw [if_neg (k 0 (by omega) 0 rfl), if_neg (k 1 (by omega) 1 rfl), if_neg (k 2 (by omega) 2 rfl), if_pos (by exact he)]; rfl
theorem dirF_last {nb : Int → Int → Int} {f F : Nat → Int} {L : List Sd} {c : Nat} (hF : F c ≠ 1099511627776) (h4 : goF nb f F L c 4 ≠ F c) (hs : ∀ s : Nat, s < 4 → goF nb f F L c (s : Int) ≠ F c) : dirF nb f F L c = 5 := by
  unfold dirF
  rw [if_neg hF, if_neg h4, if_neg (show ¬ goF nb f F L c 0 = F c from hs 0 (by omega)), if_neg (show ¬ goF nb f F L c 1 = F c from hs 1 (by omega)), if_neg (show ¬ goF nb f F L c 2 = F c from hs 2 (by omega)), if_neg (show ¬ goF nb f F L c 3 = F c from hs 3 (by omega))]

set_option maxHeartbeats 3000000 in
theorem rdir_any {W H : Int} {al : Option Addr} {n cap : Nat} {f : Nat → Int} {bl : Option Addr} {m c : Nat} {L : List Sd} {K : Int} {ag : Option Addr} {gc : Nat} {F : Nat → Int} {w : World} (l : Nat)
    (h : Sl w al n f) (hm : mayTB W H n f = true) (hS : SlS w bl m c L) (hF : SlI w ag n F) (hl : l < n) (hs : Sds f n K L) (hsp : Sprd (nearF W H n f) f n L F) :
    Calls Try.prog 30 #[.agg #[.int .i64 W, .int .i64 H, .slice al n cap], .slice bl m c, .slice ag n gc, .int .i64 l] w fun e w' => e = .returned (.int .i64 (dirF (nearF W H n f) f F L l)) ∧ Gr w w' := by
  have hgph := gph_of hm h.byte
  have hpos : ∀ i, i < n → 0 ≤ F i ∧ F i ≤ 1099511627776 := fun i hi => ⟨hsp.pos hgph hs hi, hsp.top i hi⟩
  have hlb := hpos l hl
  obtain ⟨c1, c2, c3⟩ := tri_at w W H (.slice al n cap)
  have hg1 : Gr w (w.alloc (.cells #[.int .i64 W, .int .i64 H, .slice al n cap] 24)) := (Gr.refl w).alloc _
  obtain ⟨w1, hw1⟩ : ∃ w1, w1 = w.alloc (.cells #[.int .i64 W, .int .i64 H, .slice al n cap] 24) := ⟨_, rfl⟩
  rw [← hw1] at c1 c2 c3 hg1
  replace h := h.gr hg1
  replace hS := hS.gr hg1
  replace hF := hF.gr hg1
  obtain ⟨b, o, rfl, hb, hcell⟩ := h.at (by omega)
  obtain ⟨b2, o2, rfl, hb2, hcell2⟩ := hF.at (by omega)
  have xf := hcell2 l hl
  obtain ⟨fv, hfv⟩ : ∃ fv, fv = F l := ⟨_, rfl⟩
  rw [← hfv] at xf hlb
  have HFV := hide hfv
  have HC := hide hcell
  have HC2 := hide hcell2
  have HPOS := hide hpos
  have HG := hide hgph
  have HSP := hide hsp
  have HS := hide hs
  have HBY := hide h.byte
  have l0 : (0 : Int) ≤ (l : Int) := by omega
  have ln : (l : Int) < (n : Int) := by omega
  clear hcell hcell2 hpos hgph hsp hs hfv h hF
  go_enter Try.func30, Try.ntmps30
  by_cases hi : fv = 1099511627776
  · have HD : Hid (dirF (nearF W H n f) f F L l = 5) := hide (dir_none (by rw [← HFV.out]; exact hi))
    clear HFV
    subst hi
    go_upto_region 1 with fail
    rw [← hw1]
    clear hw1
    go_wp2_with fail
    go_ret
    exact ⟨ret_int HD.out.symm, hg1⟩
  · have hlt : fv < 1099511627776 := by omega
    have hnf : decide ((1099511627776 : Int) ≤ fv) = false := by simp; omega
    go_upto_region 1 with fail
    rw [← hw1]
    clear hw1
    generalize w.heap.size = B0 at *
    go_wp2_with fail
    go_region_held3 (fun u => u.cell? ⟨b2, o2 + l, none⟩ = some (.int .i64 fv)) (first | exact xf | exact cell_gr xf hg9)
      (first | (go_at_call 18; refine (rbest_any bl m c L (l : Int) 4 _ (hS.gr ((Gr.refl w1).drew))).mono ?_; rintro e w2 ⟨rfl, hg2⟩; have hg9 : Gr w1 w2 := ((Gr.refl w1).drew).trans hg2))
    replace c1 := cell_gr c1 hg9
    replace c2 := cell_gr c2 hg9
    replace c3 := cell_gr c3 hg9
    replace xf := cell_gr xf hg9
    replace hS := hS.gr hg9
    replace HC : Hid (∀ i, i < n → w2.cell? ⟨b, o + i, none⟩ = some (.int .u8 (f i))) := hide (fun i hi => cell_gr (HC.out i hi) hg9)
    replace HC2 : Hid (∀ i, i < n → w2.cell? ⟨b2, o2 + i, none⟩ = some (.int .i64 (F i))) := hide (fun i hi => cell_gr (HC2.out i hi) hg9)
    have hgr := hg1.trans hg9
    have hgo4 : goF (nearF W H n f) f F L (l : Int) 4 = (bst INF (l : Int) 4 L).1 := by
      unfold goF nxF
      rw [if_pos rfl, if_pos (by omega)]
    clear hg2 hg9 hg1
    obtain ⟨bv, hbv⟩ : ∃ bv, bv = (bst INF (l : Int) 4 L).1 := ⟨_, rfl⟩
    rw [← hbv] at hgo4 ⊢
    clear hbv
    by_cases h4 : bv = fv
    · have HD : Hid (dirF (nearF W H n f) f F L l = 4) := hide (by
        unfold dirF
        rw [if_neg (by rw [← HFV.out]; exact hi), if_pos (by rw [hgo4, h4]; exact HFV.out)])
      subst h4
      go_wp2_with fail
      go_ret
      exact ⟨ret_int HD.out.symm, hgr⟩
    · have eb : (bv == fv) = false := by simpa using h4
      have HI := hide hi
      have H4 : Hid (goF (nearF W H n f) f F L (l : Int) 4 ≠ F l) := hide (by rw [hgo4, ← HFV.out]; exact h4)
      clear hi h4 hgo4
      go_wp2_with fail
      try rw [eb]
      try rw [hnf]
      clear eb hnf
      go_loopw [9] (fun sv u => ∃ j : Nat, sv = .int .i64 j ∧ j ≤ 4 ∧ Hid (∀ s : Nat, s < j → goF (nearF W H n f) f F L (l : Int) (s : Int) ≠ F l) ∧ Gr w2 u) (fun sv _ => 4 - (intOf sv).toNat)
      case atStart => exact ⟨0, rfl, by omega, hide (fun s hs => absurd hs (Nat.not_lt_zero _)), Gr.refl _⟩
      case round =>
        obtain ⟨j, rfl, hj, HJ, hgu⟩ := hrel
        generalize wr = w3 at *
        replace c1 := cell_gr c1 hgu
        replace c2 := cell_gr c2 hgu
        replace c3 := cell_gr c3 hgu
        replace xf := cell_gr xf hgu
        by_cases hj3 : j ≤ 3
        · have hji : (j : Int) ≤ 3 := by omega
          have hj0 : (0 : Int) ≤ (j : Int) := by omega
          obtain ⟨hdo1, hdo2⟩ := go_doc HG.out HS.out HSP.out hl (by rw [← HFV.out]; exact hlt) hj0 hji
          go_wp2_with fail
          refine (rstep_any W H (l : Int) j w3).mono ?_
          rintro e w4 ⟨rfl, hd4⟩
          rw [step_near hm hl]
          have hg4 := hd4.gr
          replace c3 := cell_gr c3 hg4
          replace xf := cell_gr xf hg4
          have hgv := hgu.trans hg4
          clear c1 c2 hd4 hg4
          rcases near_cases W H n f (l : Int) j with hz | ⟨q, hq⟩
          · have hz1 : nearF W H n f (l : Int) j = -1 := by
              have := near_ge W H n f (l : Int) j
              omega
            have hgo := hdo1 hz
            have HBE : Hid (∀ u, Dr w4 u → Calls Try.prog 18 #[.slice bl m c, .int .i64 (l : Int), .int .i64 (j : Int)] u fun e w' => e = .returned (.int .i64 (bst INF (l : Int) j L).1) ∧ Dr u w') := hide (fun u hu => rbest_dr bl m c L (l : Int) j u ((hS.gr hgv).gr hu.gr))
            generalize (bst INF (l : Int) j L).1 = bj at *
            rw [hz1]
            rw [← HFV.out] at hgo
            by_cases hb : bj = fv
            · have HD : Hid (dirF (nearF W H n f) f F L l = (j : Int)) := hide (dirF_first (by rw [← HFV.out]; exact HI.out) H4.out hj3 HJ.out (by rw [← HFV.out]; exact hgo.2 hb))
              clear hdo1 hdo2 hz hz1 hgo hlt hlb
              subst hb
              go_wp2_with fail
              go_quiet (first | (go_at_call 18; refine Dr.quiet (HBE.out _ ⟨_, rfl⟩)))
              go_wp2_with fail
              go_ret
              exact ⟨ret_int HD.out.symm, (hgr.trans hgv).drewN _⟩
            · have HN : Hid (∀ s : Nat, s < j + 1 → goF (nearF W H n f) f F L (l : Int) (s : Int) ≠ F l) := hide (fun s hs => by
                rcases (by omega : s < j ∨ s = j) with k | rfl
                · exact HJ.out s k
                · rw [← HFV.out]; exact fun e => hb (hgo.1 e))
              have ebj : (bj == fv) = false := by simpa using hb
              clear hdo1 hdo2 hz hz1 hgo hb hlt hlb
              go_wp2_with fail
              go_quiet (first | (go_at_call 18; refine Dr.quiet (HBE.out _ ⟨_, rfl⟩)))
              go_wp2_with fail
              go_roundw
              case rel => exact ⟨j + 1, by go_num, by omega, HN, hgv.drewN _⟩
              case measure => simp [intOf]; omega
          · obtain ⟨hgo, hqn, hwl⟩ := hdo2 q hq
            rw [hq]
            have yt := cell_gr (HC.out q hqn) hgv
            have yf := cell_gr (HC2.out q hqn) hgv
            have yb := HBY.out q hqn
            have yp := HPOS.out q hqn
            rw [← HFV.out] at hwl
            obtain ⟨tq, htq⟩ : ∃ tq, tq = f q := ⟨_, rfl⟩
            obtain ⟨fq, hfq⟩ : ∃ fq, fq = F q := ⟨_, rfl⟩
            rw [← htq] at yt yb hgo hwl
            rw [← hfq] at yf yp hgo hwl
            have q01 : (0 : Int) ≤ (q : Int) := by omega
            have q02 : (q : Int) < (n : Int) := by omega
            by_cases hsm : fq + tq = fv
            · have HD : Hid (dirF (nearF W H n f) f F L l = (j : Int)) := hide (dirF_first (by rw [← HFV.out]; exact HI.out) H4.out hj3 HJ.out (by rw [← HFV.out, hgo]; exact hsm))
              have et2 : (tq != 255) = true := by
                have : tq ≠ 255 := fun e => hwl e hsm
                simpa using this
              have ew1 : IntKind.i64.wrap tq = tq := wrapI (by omega)
              have ew2 : IntKind.i64.wrap (fq + tq) = fq + tq := wrapI (by omega)
              rw [← hsm] at xf
              clear hdo1 hdo2 hq hgo hwl htq hfq hlt hlb hsm
              go_wp2_with fail
              have qF : decide ((q : Int) < 0) = false := by simp
              go_quiet (fail)
              go_wp2_with fail
              go_ret
              exact ⟨ret_int HD.out.symm, (hgr.trans hgv).drewN _⟩
            · have HN : Hid (∀ s : Nat, s < j + 1 → goF (nearF W H n f) f F L (l : Int) (s : Int) ≠ F l) := hide (fun s hs => by
                rcases (by omega : s < j ∨ s = j) with k | rfl
                · exact HJ.out s k
                · rw [← HFV.out, hgo]; exact hsm)
              have es : (fq + tq == fv) = false := by simpa using hsm
              by_cases et : tq = 255
              · clear htq
                subst et
                clear hdo1 hdo2 hq hgo hwl hfq hlt hlb hsm
                go_wp2_with fail
                have qF : decide ((q : Int) < 0) = false := by simp
                go_quiet (fail)
                go_wp2_with fail
                go_roundw
                case rel => exact ⟨j + 1, by go_num, by omega, HN, hgv.drewN _⟩
                case measure => simp [intOf]; omega
              · have et2 : (tq != 255) = true := by simpa using et
                have ew1 : IntKind.i64.wrap tq = tq := wrapI (by omega)
                have ew2 : IntKind.i64.wrap (fq + tq) = fq + tq := wrapI (by omega)
                clear hdo1 hdo2 hq hgo hwl htq hfq hlt hlb hsm et
                go_wp2_with fail
                have qF : decide ((q : Int) < 0) = false := by simp
                go_quiet (fail)
                go_wp2_with fail
                go_roundw
                case rel => exact ⟨j + 1, by go_num, by omega, HN, hgv.drewN _⟩
                case measure => simp [intOf]; omega
        · obtain rfl : j = 4 := by omega
          have HD : Hid (dirF (nearF W H n f) f F L l = 5) := hide (dirF_last (by rw [← HFV.out]; exact HI.out) H4.out HJ.out)
          go_wp2_with fail
          go_ret
          exact ⟨ret_int HD.out.symm, hgr.trans hgu⟩

theorem pair_set1 (x y v : Value) : ∀ i, i < 2 → (if i = 1 then v else pairF x y i) = pairF x v i := by
  intro i hi
  rcases (by omega : i = 0 ∨ i = 1) with rfl | rfl <;> simp [pairF]
theorem Kp.grow10 {S : Nat → Prop} {a u u' : World} {row : Option Nat} (h : Kp S a u) (k : u.grownBy u' row) (hr : ∀ b, row = some b → a.heap.size ≤ b) : Kp S a u' :=
  ⟨k.os.trans h.os, k.tape.trans h.tape, k.output.trans h.output, Nat.le_trans h.size k.size, fun i hi hs => (k.block i (Nat.lt_of_lt_of_le hi h.size) (fun e => by have := hr i e.symm; omega)).trans (h.block i hi hs)⟩
theorem row_next {w4 u9 u8 : World} {BF B4 j c1 : Nat} {a1 : Option Addr} {DF : Nat → Int} {x : Value} {v' : Value} {wr : World}
    (hown : wr.ownsRow B4 3 1 (.slice a1 j c1) j (cel .i64 j DF)) (hr : wr.rowIs BF 33 2 (pairF x (.slice a1 j c1))) (hk : Kp (fun b => b = BF) w4 wr) (h4 : w4.heap.size = B4) (hBF : BF < B4) (hu : Gr wr u9)
    (hown' : u8.ownsRow B4 3 1 v' (j + 1) (cel .i64 j DF ++ [.int .i64 (DF j)])) (hgrow : u9.grownBy u8 (Value.slice a1 j c1).ownBlock) :
    ∃ a2 c2, v' = .slice a2 (j + 1) c2 ∧ u8.rowIs BF 33 2 (pairF x (.slice a1 j c1)) ∧ (u8.setCell ⟨BF, 1, none⟩ v').ownsRow B4 3 1 (.slice a2 (j + 1) c2) (j + 1) (cel .i64 (j + 1) DF)
      ∧ (u8.setCell ⟨BF, 1, none⟩ v').rowIs BF 33 2 (pairF x (.slice a2 (j + 1) c2)) ∧ Kp (fun b => b = BF) w4 (u8.setCell ⟨BF, 1, none⟩ v') := by
  rw [← cel_succ] at hown'
  obtain ⟨a2, c2, rfl, _⟩ := own_form hown'
  have hl := hown.lt
  have hr8 := row_grown (row_gr hr hu) hgrow (fun q e => by have := (hl q e).1; omega)
  refine ⟨a2, c2, rfl, hr8, ownsRow_setCell_below hown' (a := ⟨BF, 1, none⟩) hBF _, World.rowIs.congr (hr8.set 1 _) (pair_set1 _ _ _), Kp.set (S := fun b => b = BF) (p := ⟨BF, 1, none⟩) (Kp.grow10 (hk.grb hu) hgrow (fun q e => by have := (hl q e).1; omega)) (.inl rfl) _⟩

set_option maxHeartbeats 3000000 in
theorem rfield_any {W H : Int} {al : Option Addr} {n cap : Nat} {f : Nat → Int} {bl : Option Addr} {m c : Nat} {L : List Sd} {K : Int} {w : World}
    (h : Sl w al n f) (hm : mayTB W H n f = true) (g : SlS w bl m c L) (hs : Sds f n K L) (hm8 : m ≤ 800000) :
    Calls Try.prog 16 #[.agg #[.int .i64 W, .int .i64 H, .slice al n cap], .slice bl m c] w fun e w' => (∃ g1 cf a2 c2 F, e = .returned (.agg #[.slice (some ⟨g1, 0, none⟩) n cf, .slice a2 n c2]) ∧ FarS w' g1 cf n F ∧ SlI w' a2 n (dirF (nearF W H n f) f F L) ∧ Sprd (nearF W H n f) f n L F) ∧ Gr w w' := by
  obtain ⟨i0, hi, hz0, hz1, hz2⟩ := info_parts info_int
  have hn2 := (mayTB_n hm).2.1
  obtain ⟨c1, c2, c3⟩ := tri_at w W H (.slice al n cap)
  have hg1 : Gr w (w.alloc (.cells #[.int .i64 W, .int .i64 H, .slice al n cap] 24)) := (Gr.refl w).alloc _
  obtain ⟨w1, hw1⟩ : ∃ w1, w1 = w.alloc (.cells #[.int .i64 W, .int .i64 H, .slice al n cap] 24) := ⟨_, rfl⟩
  rw [← hw1] at c1 c2 c3 hg1
  have hr := pair_alloc w1 (.slice none 0 0) (.slice none 0 0) 33
  have hg2 : Gr w1 (w1.alloc (.cells #[.slice none 0 0, .slice none 0 0] 33)) := (Gr.refl w1).alloc _
  obtain ⟨w2, hw2⟩ : ∃ w2, w2 = w1.alloc (.cells #[.slice none 0 0, .slice none 0 0] 33) := ⟨_, rfl⟩
  rw [← hw2] at hr hg2
  have e1 : w1.heap.size = w.heap.size + 1 := by rw [hw1, World.size_alloc]
  rw [e1] at hr
  have hgr := hg1.trans hg2
  replace c1 := cell_gr c1 hg2
  replace c2 := cell_gr c2 hg2
  replace c3 := cell_gr c3 hg2
  go_enter Try.func16, Try.ntmps16
  go_wp2_with fail
  rw [← hw1, ← hw2]
  clear hw1 hw2 hg1 hg2 e1
  obtain ⟨BT, hBT⟩ : ∃ BT, BT = w.heap.size := ⟨_, rfl⟩
  rw [← hBT] at c1 c2 c3 hr ⊢
  have HBT := hide hBT
  clear hBT
  refine (rspread_any (h.gr hgr) hm (g.gr hgr) hs hm8).mono ?_
  rintro e w3 ⟨⟨gf, cf, F, rfl, hge, hfar, hsp⟩, hg3⟩
  replace hgr := hgr.trans hg3
  have hrl := hr.lt
  have hs3 := Below.size hg3
  replace hr := row_gr hr hg3
  replace c1 := cell_gr c1 hg3
  replace c2 := cell_gr c2 hg3
  replace c3 := cell_gr c3 hg3
  have hr4 := pair_alloc w3 (.slice (some ⟨gf, 0, none⟩) n cf) (.slice none 0 0) 33
  have hg4 : Gr w3 (w3.alloc (.cells #[.slice (some ⟨gf, 0, none⟩) n cf, .slice none 0 0] 33)) := (Gr.refl w3).alloc _
  have hsz := World.size_alloc w3 (.cells #[.slice (some ⟨gf, 0, none⟩) n cf, .slice none 0 0] 33)
  have hfl := hfar.lt
  go_upto_region 2 with fail
  generalize (w3.alloc (.cells #[.slice (some ⟨gf, 0, none⟩) n cf, .slice none 0 0] 33)) = w4 at *
  obtain ⟨BF, hBF⟩ : ∃ BF, BF = w3.heap.size := ⟨_, rfl⟩
  rw [← hBF] at hr4 hsz hs3 hfl ⊢
  replace hgr := hgr.trans hg4
  replace hr := row_gr hr hg4
  replace c1 := cell_gr c1 hg4
  replace c2 := cell_gr c2 hg4
  replace c3 := cell_gr c3 hg4
  replace hfar := hfar.gr hg4
  have hne : gf ≠ BF := by omega
  have hne2 : BT + 1 ≠ BF := by omega
  have hne3 : BT ≠ BF := by omega
  have hBw : w.heap.size ≤ BF := by have := HBT.out; omega
  obtain ⟨B4, hB4⟩ : ∃ B4, w4.heap.size = B4 := ⟨_, rfl⟩
  have hB4' : BF < B4 := by omega
  obtain ⟨DF, hDF⟩ : ∃ DF, DF = dirF (nearF W H n f) f F L := ⟨_, rfl⟩
  have HDF := hide hDF
  have HSP := hide hsp
  have HGE : Hid (BT + 1 < gf) := hide (by omega)
  have HBL : Hid (BT + 1 < B4) := hide (by omega)
  clear hDF hsp hge hg3 hg4 hBF hfl hs3 hrl
  go_wp2_with fail
  go_loopw [6] (fun iv u => ∃ (j : Nat) (a1 : Option Addr) (cc : Nat), iv = .int .i64 j ∧ j ≤ n ∧ u.ownsRow B4 3 1 (.slice a1 j cc) j (cel .i64 j DF) ∧ u.rowIs BF 33 2 (pairF (.slice (some ⟨gf, 0, none⟩) n cf) (.slice a1 j cc)) ∧ Kp (fun b => b = BF) w4 u) (fun iv _ => n - (intOf iv).toNat)
  case atStart => exact ⟨0, none, 0, rfl, by omega, World.ownsRow_nil _ _ _ _, hr4, Kp.refl _ _⟩
  case round =>
    obtain ⟨j, a1, cc, rfl, hj, hown, hrj, hkp⟩ := hrel
    generalize wr = w5 at *
    clear hr4
    have hgw : Gr w w5 := hkp.gr hgr (fun k e => by omega)
    have k1 := hkp.cell c1 hne3
    have k2 := hkp.cell c2 hne3
    have k3 := hkp.cell c3 hne3
    obtain ⟨y1, y2, y3, y4⟩ := pair_at hrj
    have hfar5 := hfar.kp hkp hne
    by_cases hjn : j < n
    · have hji : (j : Int) < (n : Int) := by omega
      have HCALL : Hid (∀ u, Gr w5 u → Calls Try.prog 30 #[.agg #[.int .i64 W, .int .i64 H, .slice al n cap], .slice bl m c, .slice (some ⟨gf, 0, none⟩) n cf, .int .i64 (j : Int)] u fun e w' => e = .returned (.int .i64 (DF j)) ∧ Gr u w') := hide (fun u hu => by
        have := rdir_any (gc := cf) (cap := cap) (c := c) (m := m) j (h.gr (hgw.trans hu)) hm (g.gr (hgw.trans hu)) ((hfar5.gr hu).sli) hjn hs HSP.out
        rw [HDF.out]
        exact this)
      have HNX : Hid (∀ (u9 u8 : World) (v' : Value), Gr w5 u9 → u8.ownsRow B4 3 1 v' (j + 1) (cel .i64 j DF ++ [.int .i64 (DF j)]) → u9.grownBy u8 (Value.slice a1 j cc).ownBlock → ∃ a2 c2, v' = .slice a2 (j + 1) c2 ∧ u8.rowIs BF 33 2 (pairF (.slice (some ⟨gf, 0, none⟩) n cf) (.slice a1 j cc)) ∧ (u8.setCell ⟨BF, 1, none⟩ v').ownsRow B4 3 1 (.slice a2 (j + 1) c2) (j + 1) (cel .i64 (j + 1) DF)
        ∧ (u8.setCell ⟨BF, 1, none⟩ v').rowIs BF 33 2 (pairF (.slice (some ⟨gf, 0, none⟩) n cf) (.slice a2 (j + 1) c2)) ∧ Kp (fun b => b = BF) w4 (u8.setCell ⟨BF, 1, none⟩ v')) := hide (fun u9 u8 v' hu ho hgg => row_next hown hrj hkp hB4 hB4' hu ho hgg)
      have HOW := hide hown
      have HS4 : Hid (B4 ≤ w5.heap.size) := hide (by have := hkp.size; omega)
      obtain ⟨dv, hdv⟩ : ∃ dv, dv = DF j := ⟨_, rfl⟩
      rw [← hdv] at HCALL HNX
      clear hown hrj hkp hfar5 hdv hgw hne hne2 hne3
      go_wp2_with fail
      go_region_law (first | (refine step_append_own rfl (.tmp 19) (.tmp 26) 25 rfl B4 3 i0 (.int .i64 0) 1 8 Try.underlying25 hi hz0 hz1 hz2 rfl (by decide) (.slice a1 j cc) j _ (by simp [Act.eval]) (own_gr HOW.out ((HG9.out).alloc _)) ⟨u9.heap.size, 0, none⟩ 1 1 [.int .i64 dv] (by simp [Act.eval]) rfl (alloc_one u9 _ _) (by simp [Value.oneCell']) (by unfold maxLen; omega) (by omega) (by have := HS4.out; have := Gr.size HG9.out; simp only [World.size_alloc]; omega) ?_; intro v' u8 hown' hgrow; obtain ⟨a2, c2', rfl, hr8, ho8, hrr8, hk8⟩ := HNX.out _ u8 v' (HG9.out.alloc _) hown' hgrow; have z3 := fun i => hr8.frozen i; have z1 := hr8.cell (i := 1) (by omega)) | (go_simp; go_wp2_with (go_at_call 30; refine (HCALL.out _ (by repeat (first | exact Gr.refl _ | assumption | exact Dr.gr (by assumption) | refine Gr.alloc ?_ _ | refine Gr.drewN ?_ _ | refine Gr.drew ?_ | refine Gr.trans ?_ (by assumption) | refine Gr.trans ?_ (Dr.gr (by assumption))))).mono ?_; rintro e u9 ⟨rfl, hg9⟩; have HG9 : Hid (Gr w5 u9) := hide (by first | exact hg9 | exact (Gr.refl w5).drew.trans hg9); have t1 := cell_gr y1 HG9.out; have t2 := cell_gr y2 HG9.out; have t3 := cell_gr t2 ((Gr.refl u9).alloc (.cells #[.int .i64 dv] 3)); have t4 := Nat.lt_of_lt_of_le y4 (Gr.size HG9.out))))
      all_goals
        go_wp2_with fail
        go_roundw
        case rel => exact ⟨j + 1, a2, c2', by go_num, by omega, ho8, hrr8, hk8⟩
        case measure => simp [intOf]; omega
    · obtain rfl : j = n := by omega
      have hji : ¬ (j : Int) < (j : Int) := by omega
      have hr5 := hkp.row hr hne2
      obtain ⟨x1, x2, x3, x4⟩ := pair_at hr5
      have hkp5 : Kp (fun b => b = BT + 1) w5 ((w5.setCell ⟨BT + 1, 0, none⟩ (.slice (some ⟨gf, 0, none⟩) j cf)).setCell ⟨BT + 1, 1, none⟩ (.slice a1 j cc)) := Kp.set (S := fun b => b = BT + 1) (p := ⟨BT + 1, 1, none⟩) (Kp.set (S := fun b => b = BT + 1) (p := ⟨BT + 1, 0, none⟩) (Kp.refl _ w5) (.inl rfl) _) (.inl rfl) _
      have hne4 : gf ≠ BT + 1 := by have := HGE.out; omega
      have hfar6 := hfar5.kp hkp5 hne4
      have hgr6 := hkp5.gr hgw (fun k e => by have := HBT.out; omega)
      have hbl : BT + 1 < B4 := by have := HBL.out; omega
      have ho6 := ownsRow_setCell_below (ownsRow_setCell_below hown (a := ⟨BT + 1, 0, none⟩) hbl (.slice (some ⟨gf, 0, none⟩) j cf)) (a := ⟨BT + 1, 1, none⟩) hbl (.slice a1 j cc)
      obtain ⟨a', c', e', -, -, hsl6⟩ := SlI.of_own ho6
      cases e'
      rw [HDF.out] at hsl6
      have HR6 := hide (And.intro hfar6 (And.intro hsl6 hgr6))
      clear hkp5 hfar6 hgr6 ho6 hsl6 hfar5 hown hr5 hkp hrj hr hfar c1 c2 c3 hbl hne4
      go_wp2_with fail
      exact bodyPost_ret (v := .agg #[.slice (some ⟨gf, 0, none⟩) j cf, .slice a1 j cc]) (by simp [results, Try.results16, go_sem, x1, x2]) rfl ⟨⟨gf, cf, a1, ⟨cc, rfl⟩, F, HR6.out.1, HR6.out.2.1, HSP.out⟩, HR6.out.2.2⟩
end Go.Proofs.Ytlnbolaaaahoaaa
