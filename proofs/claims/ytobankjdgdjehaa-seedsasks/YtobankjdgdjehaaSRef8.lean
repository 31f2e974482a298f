/- The document's SortSeeds. No condition. -/
import Derived.Test.YtobankjdgdjehaaSTold8
import Derived.Deep.RegionLawGrows
import Derived.Deep.RegionHeld3
import Derived.Deep.CutRange
namespace Go.Proofs.Ytobankjdgdjehaa
open Go.RowKit
set_option maxRecDepth 20000

theorem insAll_next {L : List Sd} {s : Nat} (h : s < L.length) : insAll (L.take (s + 1)) = insS (insAll (L.take s)) (el L s) := by rw [take_el h, insAll_snoc]
theorem insAll_len (L : List Sd) : (insAll L).length ≤ L.length := by rw [insAll_srt]; exact srt_len L
theorem seeds_empty' {u v : World} {b base : Nat} (e : b = v.heap.size) (hb : base ≤ b) (g : Gr (v.alloc (.cells #[] 38)) u) : u.ownsRow base 38 3 (.slice (some ⟨b, 0, none⟩) 0 0) 0 [] := by
  subst e
  exact own_gr3 (own_base (seeds_empty v) hb) g
theorem seeds_one' {u v : World} {b : Nat} (x : Sd) (e : b = v.heap.size) (g : Gr (v.alloc (.cells #[.int .i64 x.1, .int .i64 x.2.1, .int .i64 x.2.2] 38)) u) : SlS u (some ⟨b, 0, none⟩) 1 1 [x] := by
  subst e
  exact (seeds_one v x).gr g
theorem SlS.kept {u u' : World} {b o n c g : Nat} {L : List Sd} (h : SlS u (some ⟨b, o, none⟩) n c L) (hg : u.grownBy u' (some g)) (hne : b ≠ g) : SlS u' (some ⟨b, o, none⟩) n c L := by
  rcases h with ⟨e, _⟩ | ⟨x, h0, h1, h2, h3, h4⟩
  · cases e
  · refine .inr ⟨x, h0, h1, h2, h3, ?_⟩
    rcases h4 with h4 | ⟨b', o', e, hb, hc⟩
    · exact .inl h4
    · subst e
      cases h0
      exact .inr ⟨b, o, rfl, Nat.lt_of_lt_of_le hb hg.size, fun j u hu => (World.cell?_of_block (a := ⟨b, o + j, none⟩) (hg.block b hb (fun e => hne (by cases e; rfl)))).trans (hc j u hu)⟩
theorem keepX {u0 u : World} {B o : Nat} {x : Sd} (h1 : u0.cell? ⟨B, o, none⟩ = some (.int .i64 x.1)) (h2 : u0.cell? ⟨B, o + 1, none⟩ = some (.int .i64 x.2.1)) (h3 : u0.cell? ⟨B, o + 2, none⟩ = some (.int .i64 x.2.2)) (g : Gr u0 u) :
    u.cell? ⟨B, o, none⟩ = some (.int .i64 x.1) ∧ u.cell? ⟨B, o + 1, none⟩ = some (.int .i64 x.2.1) ∧ u.cell? ⟨B, o + 2, none⟩ = some (.int .i64 x.2.2) ∧ Gr u0 u :=
  ⟨cell_gr h1 g, cell_gr h2 g, cell_gr h3 g, g⟩
theorem flat3 (A B : List Sd) (x : Sd) : ([] ++ flatS A ++ flatS [x]) ++ flatS B = flatS (A ++ x :: B) := by simp [flatS]
set_option maxHeartbeats 2000000 in
theorem sortSeeds_any (a : Option Addr) (n c : Nat) (L : List Sd) (w : World) (h : SlS w a n c L) (hn : n ≤ 1000) :
    Calls Try.prog 20 #[.slice a n c] w fun e w' => (∃ a' c' m, e = .returned (.slice a' m c') ∧ Hid (m = (srt L).length) ∧ w'.ownsRow w.heap.size 38 3 (.slice a' m c') m (flatS (srt L))) ∧ Gr w w' := by
  have H := hide h
  have HL := hide h.len.1
  clear h
  go_enter Try.func20, Try.ntmps20
  go_wp2_with fail
  go_loopw [3, 4] (fun v i u => ∃ (s m c1 : Nat) (a1 : Option Addr), s ≤ n ∧ i = .int .i64 s ∧ v = .slice a1 m c1 ∧ Hid (m = (insAll (L.take s)).length) ∧ u.ownsRow w.heap.size 38 3 (.slice a1 m c1) m (flatS (insAll (L.take s))) ∧ Gr w u) (fun _ i _ => n - (intOf i).toNat)
  case atStart => exact ⟨0, 0, 0, none, by omega, rfl, rfl, rfl, World.ownsRow_nil _ _ _ _, Gr.refl _⟩
  case round =>
    obtain ⟨s, m, c1, a1, hs, rfl, rfl, HM, hown, hg⟩ := hrel
    generalize wr = w1 at *
    have hmn : m ≤ s := by
      rw [HM.out]
      exact Nat.le_trans (insAll_len _) (by rw [List.length_take]; omega)
    by_cases hsn : s < n
    · have hsn2 : (s : Int) < (n : Int) := by omega
      obtain ⟨B, o, rfl, hB, hc⟩ := H.out.at (by omega)
      obtain ⟨x1, x2, x3⟩ := hc s hsn
      replace x1 := cell_gr x1 hg
      replace x2 := cell_gr x2 hg
      replace x3 := cell_gr x3 hg
      have HX := hide (insAll_next (L := L) (s := s) (by rw [HL.out]; exact hsn))
      have HR := hide (insAll_rise (L.take s))
      obtain ⟨x, hx⟩ : ∃ x : Sd, x = el L s := ⟨_, rfl⟩
      obtain ⟨D, hD⟩ : ∃ D : List Sd, D = insAll (L.take s) := ⟨_, rfl⟩
      rw [← hx] at x1 x2 x3 HX
      rw [← hD] at HX HM hown HR
      obtain ⟨_, _, e1, sD⟩ := SlS.of_own hown HM.out.symm
      cases e1
      have HO := hide hown
      clear hx hD hc hown
      go_wp2_with fail
      go_loopw [5] (fun i u => ∃ (t : Nat), t ≤ m ∧ i = .int .i64 t ∧ Hid (∀ j, j < t → ltS (el D j) x = true) ∧ Gr w1 u) (fun i _ => m - (intOf i).toNat)
      case atStart => exact ⟨0, by omega, rfl, fun j hj => absurd hj (Nat.not_lt_zero _), Gr.refl _⟩
      case round =>
        obtain ⟨t, ht, rfl, HT, hg1⟩ := hrel
        generalize wr = w2 at *
        replace x1 := cell_gr x1 hg1
        replace x2 := cell_gr x2 hg1
        replace x3 := cell_gr x3 hg1
        go_upto_region 6 with fail
        go_cut [26] from 12 to 28 (fun s u => s = .bool (decide (t < m ∧ ltS (el D t) x = true)) ∧ Gr w2 u)
        case first =>
          by_cases htm : t < m
          · have htm2 : (t : Int) < (m : Int) := by omega
            obtain ⟨B1, o1, rfl, hB1, hd⟩ := sD.at (by omega)
            obtain ⟨y1, y2, y3⟩ := hd t htm
            replace y1 := cell_gr y1 hg1
            replace y2 := cell_gr y2 hg1
            replace y3 := cell_gr y3 hg1
            obtain ⟨y, hy⟩ : ∃ y : Sd, y = el D t := ⟨_, rfl⟩
            rw [← hy] at y1 y2 y3
            have HY := hide hy
            clear hy hd
            go_wp2_with fail
            go_region_held3 (fun u => u.cell? ⟨B1, o1 + t * 3, none⟩ = some (.int .i64 y.1) ∧ u.cell? ⟨B1, o1 + t * 3 + 1, none⟩ = some (.int .i64 y.2.1) ∧ u.cell? ⟨B1, o1 + t * 3 + 2, none⟩ = some (.int .i64 y.2.2) ∧ u.cell? ⟨B, o + s * 3, none⟩ = some (.int .i64 x.1) ∧ u.cell? ⟨B, o + s * 3 + 1, none⟩ = some (.int .i64 x.2.1) ∧ u.cell? ⟨B, o + s * 3 + 2, none⟩ = some (.int .i64 x.2.2) ∧ Gr w2 u) (first | exact ⟨y1, y2, y3, x1, x2, x3, (Gr.refl _).drew⟩ | exact ⟨cell_gr hS.1 hg9, cell_gr hS.2.1 hg9, cell_gr hS.2.2.1 hg9, cell_gr hS.2.2.2.1 hg9, cell_gr hS.2.2.2.2.1 hg9, cell_gr hS.2.2.2.2.2.1 hg9, hS.2.2.2.2.2.2.trans hg9⟩) (first | (go_at_call 34; have hS := ‹_ ∧ _ ∧ _ ∧ _ ∧ _ ∧ _ ∧ Gr _ _›; refine (before_any y x _).mono ?_; rintro e9 w9 ⟨rfl, hg9⟩))
            all_goals
              go_wp2_with fail
              go_meet
              exact ⟨by rw [← HY.out]; simp [htm], hS.2.2.2.2.2.2.trans hg9⟩
          · have htm2 : ¬ (t : Int) < (m : Int) := by omega
            go_wp2_with fail
            go_quiet (fail)
            go_wp2_with fail
            go_meet
            exact ⟨by simp [htm], (Gr.refl _).drewN _⟩
        case rest =>
          obtain ⟨rfl, hgc⟩ := hcut
          generalize wc = w3 at *
          replace x1 := cell_gr x1 hgc
          replace x2 := cell_gr x2 hgc
          replace x3 := cell_gr x3 hgc
          replace hg1 := hg1.trans hgc
          clear hgc
          by_cases hdo : t < m ∧ ltS (el D t) x = true
          · rw [decide_eq_true hdo]
            have HDO := hide hdo
            clear hdo
            have htm := HDO.out.1
            go_wp2_with fail
            go_roundw
            case rel =>
              refine ⟨t + 1, htm, by go_num, (show Hid _ from fun j hj => ?_), hg1⟩
              rcases (by omega : j < t ∨ j = t) with k | rfl
              · exact HT.out j k
              · exact HDO.out.2
            case measure => simp [intOf]; omega
          · rw [decide_eq_false hdo]
            have HDO := hide hdo
            clear hdo
            have HAT : Hid (atS D x = t) := atS_eq (fun j y hj hy => by rw [← el_of hy]; exact HT.out j hj) (fun y hy => by
              have htm : t < m := by rw [HM.out]; exact (List.getElem?_eq_some_iff.1 hy).1
              cases e : ltS y x with
              | false => rfl
              | true => exact absurd ⟨htm, by rw [el_of hy]; exact e⟩ HDO.out) (by rw [← HM.out]; exact ht)
            go_upto_region 8 with fail
            go_cut [43] from 29 to 58 (fun s u => s = .bool (decide (t < m ∧ el D t = x)) ∧ Gr w3 u)
            case first =>
              by_cases htm : t < m
              · have htm2 : (t : Int) < (m : Int) := by omega
                obtain ⟨B1, o1, rfl, hB1, hd⟩ := sD.at (by omega)
                obtain ⟨y1, y2, y3⟩ := hd t htm
                replace y1 := cell_gr y1 hg1
                replace y2 := cell_gr y2 hg1
                replace y3 := cell_gr y3 hg1
                obtain ⟨y, hy⟩ : ∃ y : Sd, y = el D t := ⟨_, rfl⟩
                rw [← hy] at y1 y2 y3
                have HY := hide hy
                clear hy hd
                have en : ∀ w, Sem.run Try.prog (binOp .eql 38 (.agg #[.int .i64 y.1, .int .i64 y.2.1, .int .i64 y.2.2]) (.agg #[.int .i64 x.1, .int .i64 x.2.1, .int .i64 x.2.2])) w = .ok (.bool (decide (y = x))) w := eql_seed y x
                generalize hr : decide (y = x) = r at en
                have HRR := hide hr
                clear hr
                go_wp2_with fail
                go_quiet (fail)
                go_wp2_with fail
                go_meet
                exact ⟨by rw [← HRR.out, ← HY.out]; simp [htm], (Gr.refl _).drewN _⟩
              · have htm2 : ¬ (t : Int) < (m : Int) := by omega
                go_wp2_with fail
                go_quiet (fail)
                go_wp2_with fail
                go_meet
                exact ⟨by simp [htm], (Gr.refl _).drewN _⟩
            case rest =>
              obtain ⟨rfl, hgc⟩ := hcut
              generalize wc = w4 at *
              replace x1 := cell_gr x1 hgc
              replace x2 := cell_gr x2 hgc
              replace x3 := cell_gr x3 hgc
              replace hg1 := hg1.trans hgc
              clear hgc
              by_cases hdo : t < m ∧ el D t = x
              · rw [decide_eq_true hdo]
                have hDx : insS D x = D := ins_there (by rw [HAT.out, el_get? (by rw [← HM.out]; exact hdo.1), hdo.2])
                have HDX := hide hDx
                clear hdo hDx
                go_wp2_with fail
                go_roundw
                case rel => exact ⟨s + 1, m, c1, _, hsn, by go_num, rfl, (show Hid _ by rw [HX.out, HDX.out]; exact HM), by rw [HX.out, HDX.out]; exact own_gr3 HO.out hg1, hg.trans hg1⟩
                case measure => simp [intOf]; omega
              · rw [decide_eq_false hdo]
                have hDx : insS D x = D.take t ++ x :: D.drop t := by
                  rw [ins_not HR.out (by
                    intro e
                    rw [HAT.out] at e
                    have htm : t < m := by rw [HM.out]; exact (List.getElem?_eq_some_iff.1 e).1
                    exact hdo ⟨htm, el_of e⟩), HAT.out]
                have HDX := hide hDx
                clear hdo hDx
                have sD4 := sD.gr hg1
                have hml := sD4.len
                have htc : t ≤ c1 := by omega
                have h0t : 0 + t = t := Nat.zero_add t
                have hz0 : w4.heap.size < (w4.alloc (.cells #[] 38)).heap.size := by simp
                rcases HO.out.2 with ⟨e, e0⟩ | ⟨g1, cap, cur, e, hbase, r⟩
                · cases e
                  have sdr := sD4
                  have ht0 : t = 0 := by omega
                  subst ht0
                  rw [show D = D.drop 0 from rfl] at sdr
                  have SD := hide sD4
                  have SR := hide sdr
                  clear sD4 sdr
                  go_wp2_with fail
                  go_region_held3 (fun u => u.cell? ⟨B, o + s * 3, none⟩ = some (.int .i64 x.1) ∧ u.cell? ⟨B, o + s * 3 + 1, none⟩ = some (.int .i64 x.2.1) ∧ u.cell? ⟨B, o + s * 3 + 2, none⟩ = some (.int .i64 x.2.2) ∧ Gr w4 u) ((refine keepX x1 x2 x3 ?_; exact (by (repeat (first | (with_reducible exact Gr.refl _) | (with_reducible assumption) | (with_reducible refine Gr.alloc ?_ _) | (with_reducible refine Gr.drew ?_) | (with_reducible refine Gr.set ?_ (by dsimp only; omega) _) | (with_reducible refine Gr.trans ?_ (by with_reducible assumption)))); first | done | fail))) (first | (refine step_seeds rfl (.tmp 44) (.tmp 47) rfl w4.heap.size (.slice (some ⟨w4.heap.size, 0, none⟩) 0 0) 0 [] rfl (seeds_empty' (v := w4) rfl (Nat.le_refl _) (by (repeat (first | (with_reducible exact Gr.refl _) | (with_reducible assumption) | (with_reducible refine Gr.alloc ?_ _) | (with_reducible refine Gr.drew ?_) | (with_reducible refine Gr.set ?_ (by dsimp only; omega) _) | (with_reducible refine Gr.trans ?_ (by with_reducible assumption)))); first | done | fail)) _ 0 0 (D.take 0) rfl ((SD.out.take (Nat.le_refl 0)).gr (by (repeat (first | (with_reducible exact Gr.refl _) | (with_reducible assumption) | (with_reducible refine Gr.alloc ?_ _) | (with_reducible refine Gr.drew ?_) | (with_reducible refine Gr.set ?_ (by dsimp only; omega) _) | (with_reducible refine Gr.trans ?_ (by with_reducible assumption)))); first | done | fail)) (by omega) (rfl : 0 + 0 = 0) (Gr.size (a := w4) (by (repeat (first | (with_reducible exact Gr.refl _) | (with_reducible assumption) | (with_reducible refine Gr.alloc ?_ _) | (with_reducible refine Gr.drew ?_) | (with_reducible refine Gr.set ?_ (by dsimp only; omega) _) | (with_reducible refine Gr.trans ?_ (by with_reducible assumption)))); first | done | fail)) ?_; intro a5 c5 w5 hown5 hgrow5; have hg5 : Gr w4 w5 := Gr.grown (by (repeat (first | (with_reducible exact Gr.refl _) | (with_reducible assumption) | (with_reducible refine Gr.alloc ?_ _) | (with_reducible refine Gr.drew ?_) | (with_reducible refine Gr.set ?_ (by dsimp only; omega) _) | (with_reducible refine Gr.trans ?_ (by with_reducible assumption)))); first | done | fail) hgrow5 (by intro k e; cases e; first | exact Nat.le_refl _ | exact Nat.le_succ _); (try have hone := SlS.kept (g := w4.heap.size) (seeds_one' (v := w4.alloc (.cells #[] 38)) (b := w4.heap.size + 1) x (by simp) (by (repeat (first | (with_reducible exact Gr.refl _) | (with_reducible assumption) | (with_reducible refine Gr.alloc ?_ _) | (with_reducible refine Gr.drew ?_) | (with_reducible refine Gr.set ?_ (by dsimp only; omega) _) | (with_reducible refine Gr.trans ?_ (by with_reducible assumption)))); first | done | fail)) hgrow5 (by omega)); clear hgrow5) | (refine step_seeds rfl (.tmp 44) (.tmp 47) rfl w4.heap.size (.slice (some ⟨w4.heap.size + 1, 0, none⟩) 0 0) 0 [] rfl (seeds_empty' (v := w4.alloc (.cells #[.int .i64 x.1, .int .i64 x.2.1, .int .i64 x.2.2] 38)) (by simp) (Nat.le_succ _) (by (repeat (first | (with_reducible exact Gr.refl _) | (with_reducible assumption) | (with_reducible refine Gr.alloc ?_ _) | (with_reducible refine Gr.drew ?_) | (with_reducible refine Gr.set ?_ (by dsimp only; omega) _) | (with_reducible refine Gr.trans ?_ (by with_reducible assumption)))); first | done | fail)) _ 0 0 (D.take 0) rfl ((SD.out.take (Nat.le_refl 0)).gr (by (repeat (first | (with_reducible exact Gr.refl _) | (with_reducible assumption) | (with_reducible refine Gr.alloc ?_ _) | (with_reducible refine Gr.drew ?_) | (with_reducible refine Gr.set ?_ (by dsimp only; omega) _) | (with_reducible refine Gr.trans ?_ (by with_reducible assumption)))); first | done | fail)) (by omega) (rfl : 0 + 0 = 0) (Gr.size (a := w4) (by (repeat (first | (with_reducible exact Gr.refl _) | (with_reducible assumption) | (with_reducible refine Gr.alloc ?_ _) | (with_reducible refine Gr.drew ?_) | (with_reducible refine Gr.set ?_ (by dsimp only; omega) _) | (with_reducible refine Gr.trans ?_ (by with_reducible assumption)))); first | done | fail)) ?_; intro a5 c5 w5 hown5 hgrow5; have hg5 : Gr w4 w5 := Gr.grown (by (repeat (first | (with_reducible exact Gr.refl _) | (with_reducible assumption) | (with_reducible refine Gr.alloc ?_ _) | (with_reducible refine Gr.drew ?_) | (with_reducible refine Gr.set ?_ (by dsimp only; omega) _) | (with_reducible refine Gr.trans ?_ (by with_reducible assumption)))); first | done | fail) hgrow5 (by intro k e; cases e; first | exact Nat.le_refl _ | exact Nat.le_succ _); (try have hone := SlS.kept (g := w4.heap.size + 1) (seeds_one' (v := w4) (b := w4.heap.size) x rfl (by (repeat (first | (with_reducible exact Gr.refl _) | (with_reducible assumption) | (with_reducible refine Gr.alloc ?_ _) | (with_reducible refine Gr.drew ?_) | (with_reducible refine Gr.set ?_ (by dsimp only; omega) _) | (with_reducible refine Gr.trans ?_ (by with_reducible assumption)))); first | done | fail)) hgrow5 (by omega)); clear hgrow5) | (refine step_seeds rfl (.tmp 48) (.tmp 53) rfl w4.heap.size _ 0 _ rfl (own_gr3 hown5 (by (repeat (first | (with_reducible exact Gr.refl _) | (with_reducible assumption) | (with_reducible refine Gr.alloc ?_ _) | (with_reducible refine Gr.drew ?_) | (with_reducible refine Gr.set ?_ (by dsimp only; omega) _) | (with_reducible refine Gr.trans ?_ (by with_reducible assumption)))); first | done | fail)) _ 1 1 [x] rfl (by first | exact hone.gr (by (repeat (first | (with_reducible exact Gr.refl _) | (with_reducible assumption) | (with_reducible refine Gr.alloc ?_ _) | (with_reducible refine Gr.drew ?_) | (with_reducible refine Gr.set ?_ (by dsimp only; omega) _) | (with_reducible refine Gr.trans ?_ (by with_reducible assumption)))); first | done | fail) | exact seeds_one' (v := w5) x rfl (by (repeat (first | (with_reducible exact Gr.refl _) | (with_reducible assumption) | (with_reducible refine Gr.alloc ?_ _) | (with_reducible refine Gr.drew ?_) | (with_reducible refine Gr.set ?_ (by dsimp only; omega) _) | (with_reducible refine Gr.trans ?_ (by with_reducible assumption)))); first | done | fail)) (by omega) (N := 0 + 1) rfl (Gr.size (a := w4) (by (repeat (first | (with_reducible exact Gr.refl _) | (with_reducible assumption) | (with_reducible refine Gr.alloc ?_ _) | (with_reducible refine Gr.drew ?_) | (with_reducible refine Gr.set ?_ (by dsimp only; omega) _) | (with_reducible refine Gr.trans ?_ (by with_reducible assumption)))); first | done | fail)) ?_; intro a6 c6 w6 hown6 hgrow6; have hg6 : Gr w4 w6 := Gr.grown (by (repeat (first | (with_reducible exact Gr.refl _) | (with_reducible assumption) | (with_reducible refine Gr.alloc ?_ _) | (with_reducible refine Gr.drew ?_) | (with_reducible refine Gr.set ?_ (by dsimp only; omega) _) | (with_reducible refine Gr.trans ?_ (by with_reducible assumption)))); first | done | fail) hgrow6 (fun k e => (hown5.lt k e).1); clear hgrow6) | (refine step_seeds rfl (.tmp 54) (.tmp 57) rfl w4.heap.size _ (0 + 1) _ rfl (own_gr3 hown6 (by (repeat (first | (with_reducible exact Gr.refl _) | (with_reducible assumption) | (with_reducible refine Gr.alloc ?_ _) | (with_reducible refine Gr.drew ?_) | (with_reducible refine Gr.set ?_ (by dsimp only; omega) _) | (with_reducible refine Gr.trans ?_ (by with_reducible assumption)))); first | done | fail)) _ 0 0 (D.drop 0) rfl (SR.out.gr (by (repeat (first | (with_reducible exact Gr.refl _) | (with_reducible assumption) | (with_reducible refine Gr.alloc ?_ _) | (with_reducible refine Gr.drew ?_) | (with_reducible refine Gr.set ?_ (by dsimp only; omega) _) | (with_reducible refine Gr.trans ?_ (by with_reducible assumption)))); first | done | fail)) (by omega) (N := 0 + 1) rfl (Gr.size (a := w4) (by (repeat (first | (with_reducible exact Gr.refl _) | (with_reducible assumption) | (with_reducible refine Gr.alloc ?_ _) | (with_reducible refine Gr.drew ?_) | (with_reducible refine Gr.set ?_ (by dsimp only; omega) _) | (with_reducible refine Gr.trans ?_ (by with_reducible assumption)))); first | done | fail)) ?_; intro a7 c7 w7 hown7 hgrow7; have hg7 : Gr w4 w7 := Gr.grown (by (repeat (first | (with_reducible exact Gr.refl _) | (with_reducible assumption) | (with_reducible refine Gr.alloc ?_ _) | (with_reducible refine Gr.drew ?_) | (with_reducible refine Gr.set ?_ (by dsimp only; omega) _) | (with_reducible refine Gr.trans ?_ (by with_reducible assumption)))); first | done | fail) hgrow7 (fun k e => (hown6.lt k e).1); clear hgrow7))
                  all_goals
                    go_wp2_with fail
                    go_roundw
                    case rel => exact ⟨s + 1, 0 + 1, c7, a7, hsn, by go_num, rfl, (show Hid _ by rw [HX.out, HDX.out]; show 0 + 1 = _; rw [List.length_append, List.length_cons, List.length_take, List.length_drop, ← HM.out]; omega), (by rw [HX.out, HDX.out, ← flat3]; exact own_base hown7 (Gr.size (hg.trans hg1))), (hg.trans hg1).trans hg7⟩
                    case measure => simp [intOf]; omega
                · cases e
                  clear r
                  by_cases hct : c1 = t
                  · have sdr : SlS w4 (some ⟨g1, 0, none⟩) (m - t) (c1 - t) (D.drop t) := .inr ⟨_, rfl, by rw [List.length_drop, ← HM.out], by omega, by omega, .inl (by omega)⟩
                    have hct' : (c1 = t) = True := eq_true hct
                    clear hct
                    go_wp2_with fail
                    go_region_held3 (fun u => u.cell? ⟨B, o + s * 3, none⟩ = some (.int .i64 x.1) ∧ u.cell? ⟨B, o + s * 3 + 1, none⟩ = some (.int .i64 x.2.1) ∧ u.cell? ⟨B, o + s * 3 + 2, none⟩ = some (.int .i64 x.2.2) ∧ Gr w4 u) ((refine keepX x1 x2 x3 ?_; exact (by (repeat (first | (with_reducible exact Gr.refl _) | (with_reducible assumption) | (with_reducible refine Gr.alloc ?_ _) | (with_reducible refine Gr.drew ?_) | (with_reducible refine Gr.set ?_ (by dsimp only; omega) _) | (with_reducible refine Gr.trans ?_ (by with_reducible assumption)))); first | done | fail))) (first | (refine step_seeds rfl (.tmp 44) (.tmp 47) rfl w4.heap.size (.slice (some ⟨w4.heap.size, 0, none⟩) 0 0) 0 [] rfl (seeds_empty' (v := w4) rfl (Nat.le_refl _) (by (repeat (first | (with_reducible exact Gr.refl _) | (with_reducible assumption) | (with_reducible refine Gr.alloc ?_ _) | (with_reducible refine Gr.drew ?_) | (with_reducible refine Gr.set ?_ (by dsimp only; omega) _) | (with_reducible refine Gr.trans ?_ (by with_reducible assumption)))); first | done | fail)) _ t c1 (D.take t) rfl ((sD4.take ht).gr (by (repeat (first | (with_reducible exact Gr.refl _) | (with_reducible assumption) | (with_reducible refine Gr.alloc ?_ _) | (with_reducible refine Gr.drew ?_) | (with_reducible refine Gr.set ?_ (by dsimp only; omega) _) | (with_reducible refine Gr.trans ?_ (by with_reducible assumption)))); first | done | fail)) (by omega) h0t (Gr.size (a := w4) (by (repeat (first | (with_reducible exact Gr.refl _) | (with_reducible assumption) | (with_reducible refine Gr.alloc ?_ _) | (with_reducible refine Gr.drew ?_) | (with_reducible refine Gr.set ?_ (by dsimp only; omega) _) | (with_reducible refine Gr.trans ?_ (by with_reducible assumption)))); first | done | fail)) ?_; intro a5 c5 w5 hown5 hgrow5; have hg5 : Gr w4 w5 := Gr.grown (by (repeat (first | (with_reducible exact Gr.refl _) | (with_reducible assumption) | (with_reducible refine Gr.alloc ?_ _) | (with_reducible refine Gr.drew ?_) | (with_reducible refine Gr.set ?_ (by dsimp only; omega) _) | (with_reducible refine Gr.trans ?_ (by with_reducible assumption)))); first | done | fail) hgrow5 (by intro k e; cases e; first | exact Nat.le_refl _ | exact Nat.le_succ _); (try have hone := SlS.kept (g := w4.heap.size) (seeds_one' (v := w4.alloc (.cells #[] 38)) (b := w4.heap.size + 1) x (by simp) (by (repeat (first | (with_reducible exact Gr.refl _) | (with_reducible assumption) | (with_reducible refine Gr.alloc ?_ _) | (with_reducible refine Gr.drew ?_) | (with_reducible refine Gr.set ?_ (by dsimp only; omega) _) | (with_reducible refine Gr.trans ?_ (by with_reducible assumption)))); first | done | fail)) hgrow5 (by omega)); clear hgrow5) | (refine step_seeds rfl (.tmp 44) (.tmp 47) rfl w4.heap.size (.slice (some ⟨w4.heap.size + 1, 0, none⟩) 0 0) 0 [] rfl (seeds_empty' (v := w4.alloc (.cells #[.int .i64 x.1, .int .i64 x.2.1, .int .i64 x.2.2] 38)) (by simp) (Nat.le_succ _) (by (repeat (first | (with_reducible exact Gr.refl _) | (with_reducible assumption) | (with_reducible refine Gr.alloc ?_ _) | (with_reducible refine Gr.drew ?_) | (with_reducible refine Gr.set ?_ (by dsimp only; omega) _) | (with_reducible refine Gr.trans ?_ (by with_reducible assumption)))); first | done | fail)) _ t c1 (D.take t) rfl ((sD4.take ht).gr (by (repeat (first | (with_reducible exact Gr.refl _) | (with_reducible assumption) | (with_reducible refine Gr.alloc ?_ _) | (with_reducible refine Gr.drew ?_) | (with_reducible refine Gr.set ?_ (by dsimp only; omega) _) | (with_reducible refine Gr.trans ?_ (by with_reducible assumption)))); first | done | fail)) (by omega) h0t (Gr.size (a := w4) (by (repeat (first | (with_reducible exact Gr.refl _) | (with_reducible assumption) | (with_reducible refine Gr.alloc ?_ _) | (with_reducible refine Gr.drew ?_) | (with_reducible refine Gr.set ?_ (by dsimp only; omega) _) | (with_reducible refine Gr.trans ?_ (by with_reducible assumption)))); first | done | fail)) ?_; intro a5 c5 w5 hown5 hgrow5; have hg5 : Gr w4 w5 := Gr.grown (by (repeat (first | (with_reducible exact Gr.refl _) | (with_reducible assumption) | (with_reducible refine Gr.alloc ?_ _) | (with_reducible refine Gr.drew ?_) | (with_reducible refine Gr.set ?_ (by dsimp only; omega) _) | (with_reducible refine Gr.trans ?_ (by with_reducible assumption)))); first | done | fail) hgrow5 (by intro k e; cases e; first | exact Nat.le_refl _ | exact Nat.le_succ _); (try have hone := SlS.kept (g := w4.heap.size + 1) (seeds_one' (v := w4) (b := w4.heap.size) x rfl (by (repeat (first | (with_reducible exact Gr.refl _) | (with_reducible assumption) | (with_reducible refine Gr.alloc ?_ _) | (with_reducible refine Gr.drew ?_) | (with_reducible refine Gr.set ?_ (by dsimp only; omega) _) | (with_reducible refine Gr.trans ?_ (by with_reducible assumption)))); first | done | fail)) hgrow5 (by omega)); clear hgrow5) | (refine step_seeds rfl (.tmp 48) (.tmp 53) rfl w4.heap.size _ t _ rfl (own_gr3 hown5 (by (repeat (first | (with_reducible exact Gr.refl _) | (with_reducible assumption) | (with_reducible refine Gr.alloc ?_ _) | (with_reducible refine Gr.drew ?_) | (with_reducible refine Gr.set ?_ (by dsimp only; omega) _) | (with_reducible refine Gr.trans ?_ (by with_reducible assumption)))); first | done | fail)) _ 1 1 [x] rfl (by first | exact hone.gr (by (repeat (first | (with_reducible exact Gr.refl _) | (with_reducible assumption) | (with_reducible refine Gr.alloc ?_ _) | (with_reducible refine Gr.drew ?_) | (with_reducible refine Gr.set ?_ (by dsimp only; omega) _) | (with_reducible refine Gr.trans ?_ (by with_reducible assumption)))); first | done | fail) | exact seeds_one' (v := w5) x rfl (by (repeat (first | (with_reducible exact Gr.refl _) | (with_reducible assumption) | (with_reducible refine Gr.alloc ?_ _) | (with_reducible refine Gr.drew ?_) | (with_reducible refine Gr.set ?_ (by dsimp only; omega) _) | (with_reducible refine Gr.trans ?_ (by with_reducible assumption)))); first | done | fail)) (by omega) (N := t + 1) rfl (Gr.size (a := w4) (by (repeat (first | (with_reducible exact Gr.refl _) | (with_reducible assumption) | (with_reducible refine Gr.alloc ?_ _) | (with_reducible refine Gr.drew ?_) | (with_reducible refine Gr.set ?_ (by dsimp only; omega) _) | (with_reducible refine Gr.trans ?_ (by with_reducible assumption)))); first | done | fail)) ?_; intro a6 c6 w6 hown6 hgrow6; have hg6 : Gr w4 w6 := Gr.grown (by (repeat (first | (with_reducible exact Gr.refl _) | (with_reducible assumption) | (with_reducible refine Gr.alloc ?_ _) | (with_reducible refine Gr.drew ?_) | (with_reducible refine Gr.set ?_ (by dsimp only; omega) _) | (with_reducible refine Gr.trans ?_ (by with_reducible assumption)))); first | done | fail) hgrow6 (fun k e => (hown5.lt k e).1); clear hgrow6) | (refine step_seeds rfl (.tmp 54) (.tmp 57) rfl w4.heap.size _ (t + 1) _ rfl (own_gr3 hown6 (by (repeat (first | (with_reducible exact Gr.refl _) | (with_reducible assumption) | (with_reducible refine Gr.alloc ?_ _) | (with_reducible refine Gr.drew ?_) | (with_reducible refine Gr.set ?_ (by dsimp only; omega) _) | (with_reducible refine Gr.trans ?_ (by with_reducible assumption)))); first | done | fail)) _ (m - t) (c1 - t) (D.drop t) rfl (sdr.gr (by (repeat (first | (with_reducible exact Gr.refl _) | (with_reducible assumption) | (with_reducible refine Gr.alloc ?_ _) | (with_reducible refine Gr.drew ?_) | (with_reducible refine Gr.set ?_ (by dsimp only; omega) _) | (with_reducible refine Gr.trans ?_ (by with_reducible assumption)))); first | done | fail)) (by omega) (N := m + 1) (by omega) (Gr.size (a := w4) (by (repeat (first | (with_reducible exact Gr.refl _) | (with_reducible assumption) | (with_reducible refine Gr.alloc ?_ _) | (with_reducible refine Gr.drew ?_) | (with_reducible refine Gr.set ?_ (by dsimp only; omega) _) | (with_reducible refine Gr.trans ?_ (by with_reducible assumption)))); first | done | fail)) ?_; intro a7 c7 w7 hown7 hgrow7; have hg7 : Gr w4 w7 := Gr.grown (by (repeat (first | (with_reducible exact Gr.refl _) | (with_reducible assumption) | (with_reducible refine Gr.alloc ?_ _) | (with_reducible refine Gr.drew ?_) | (with_reducible refine Gr.set ?_ (by dsimp only; omega) _) | (with_reducible refine Gr.trans ?_ (by with_reducible assumption)))); first | done | fail) hgrow7 (fun k e => (hown6.lt k e).1); clear hgrow7))
                    all_goals
                      go_wp2_with fail
                      go_roundw
                      case rel => exact ⟨s + 1, m + 1, c7, a7, hsn, by go_num, rfl, (show Hid _ by rw [HX.out, HDX.out]; show m + 1 = _; rw [List.length_append, List.length_cons, List.length_take, List.length_drop, ← HM.out]; omega), (by rw [HX.out, HDX.out, ← flat3]; exact own_base hown7 (Gr.size (hg.trans hg1))), (hg.trans hg1).trans hg7⟩
                      case measure => simp [intOf]; omega
                  · have sdr := sD4.drop ht
                    rw [Nat.zero_add] at sdr
                    go_wp2_with fail
                    go_region_held3 (fun u => u.cell? ⟨B, o + s * 3, none⟩ = some (.int .i64 x.1) ∧ u.cell? ⟨B, o + s * 3 + 1, none⟩ = some (.int .i64 x.2.1) ∧ u.cell? ⟨B, o + s * 3 + 2, none⟩ = some (.int .i64 x.2.2) ∧ Gr w4 u) ((refine keepX x1 x2 x3 ?_; exact (by (repeat (first | (with_reducible exact Gr.refl _) | (with_reducible assumption) | (with_reducible refine Gr.alloc ?_ _) | (with_reducible refine Gr.drew ?_) | (with_reducible refine Gr.set ?_ (by dsimp only; omega) _) | (with_reducible refine Gr.trans ?_ (by with_reducible assumption)))); first | done | fail))) (first | (refine step_seeds rfl (.tmp 44) (.tmp 47) rfl w4.heap.size (.slice (some ⟨w4.heap.size, 0, none⟩) 0 0) 0 [] rfl (seeds_empty' (v := w4) rfl (Nat.le_refl _) (by (repeat (first | (with_reducible exact Gr.refl _) | (with_reducible assumption) | (with_reducible refine Gr.alloc ?_ _) | (with_reducible refine Gr.drew ?_) | (with_reducible refine Gr.set ?_ (by dsimp only; omega) _) | (with_reducible refine Gr.trans ?_ (by with_reducible assumption)))); first | done | fail)) _ t c1 (D.take t) rfl ((sD4.take ht).gr (by (repeat (first | (with_reducible exact Gr.refl _) | (with_reducible assumption) | (with_reducible refine Gr.alloc ?_ _) | (with_reducible refine Gr.drew ?_) | (with_reducible refine Gr.set ?_ (by dsimp only; omega) _) | (with_reducible refine Gr.trans ?_ (by with_reducible assumption)))); first | done | fail)) (by omega) h0t (Gr.size (a := w4) (by (repeat (first | (with_reducible exact Gr.refl _) | (with_reducible assumption) | (with_reducible refine Gr.alloc ?_ _) | (with_reducible refine Gr.drew ?_) | (with_reducible refine Gr.set ?_ (by dsimp only; omega) _) | (with_reducible refine Gr.trans ?_ (by with_reducible assumption)))); first | done | fail)) ?_; intro a5 c5 w5 hown5 hgrow5; have hg5 : Gr w4 w5 := Gr.grown (by (repeat (first | (with_reducible exact Gr.refl _) | (with_reducible assumption) | (with_reducible refine Gr.alloc ?_ _) | (with_reducible refine Gr.drew ?_) | (with_reducible refine Gr.set ?_ (by dsimp only; omega) _) | (with_reducible refine Gr.trans ?_ (by with_reducible assumption)))); first | done | fail) hgrow5 (by intro k e; cases e; first | exact Nat.le_refl _ | exact Nat.le_succ _); (try have hone := SlS.kept (g := w4.heap.size) (seeds_one' (v := w4.alloc (.cells #[] 38)) (b := w4.heap.size + 1) x (by simp) (by (repeat (first | (with_reducible exact Gr.refl _) | (with_reducible assumption) | (with_reducible refine Gr.alloc ?_ _) | (with_reducible refine Gr.drew ?_) | (with_reducible refine Gr.set ?_ (by dsimp only; omega) _) | (with_reducible refine Gr.trans ?_ (by with_reducible assumption)))); first | done | fail)) hgrow5 (by omega)); clear hgrow5) | (refine step_seeds rfl (.tmp 44) (.tmp 47) rfl w4.heap.size (.slice (some ⟨w4.heap.size + 1, 0, none⟩) 0 0) 0 [] rfl (seeds_empty' (v := w4.alloc (.cells #[.int .i64 x.1, .int .i64 x.2.1, .int .i64 x.2.2] 38)) (by simp) (Nat.le_succ _) (by (repeat (first | (with_reducible exact Gr.refl _) | (with_reducible assumption) | (with_reducible refine Gr.alloc ?_ _) | (with_reducible refine Gr.drew ?_) | (with_reducible refine Gr.set ?_ (by dsimp only; omega) _) | (with_reducible refine Gr.trans ?_ (by with_reducible assumption)))); first | done | fail)) _ t c1 (D.take t) rfl ((sD4.take ht).gr (by (repeat (first | (with_reducible exact Gr.refl _) | (with_reducible assumption) | (with_reducible refine Gr.alloc ?_ _) | (with_reducible refine Gr.drew ?_) | (with_reducible refine Gr.set ?_ (by dsimp only; omega) _) | (with_reducible refine Gr.trans ?_ (by with_reducible assumption)))); first | done | fail)) (by omega) h0t (Gr.size (a := w4) (by (repeat (first | (with_reducible exact Gr.refl _) | (with_reducible assumption) | (with_reducible refine Gr.alloc ?_ _) | (with_reducible refine Gr.drew ?_) | (with_reducible refine Gr.set ?_ (by dsimp only; omega) _) | (with_reducible refine Gr.trans ?_ (by with_reducible assumption)))); first | done | fail)) ?_; intro a5 c5 w5 hown5 hgrow5; have hg5 : Gr w4 w5 := Gr.grown (by (repeat (first | (with_reducible exact Gr.refl _) | (with_reducible assumption) | (with_reducible refine Gr.alloc ?_ _) | (with_reducible refine Gr.drew ?_) | (with_reducible refine Gr.set ?_ (by dsimp only; omega) _) | (with_reducible refine Gr.trans ?_ (by with_reducible assumption)))); first | done | fail) hgrow5 (by intro k e; cases e; first | exact Nat.le_refl _ | exact Nat.le_succ _); (try have hone := SlS.kept (g := w4.heap.size + 1) (seeds_one' (v := w4) (b := w4.heap.size) x rfl (by (repeat (first | (with_reducible exact Gr.refl _) | (with_reducible assumption) | (with_reducible refine Gr.alloc ?_ _) | (with_reducible refine Gr.drew ?_) | (with_reducible refine Gr.set ?_ (by dsimp only; omega) _) | (with_reducible refine Gr.trans ?_ (by with_reducible assumption)))); first | done | fail)) hgrow5 (by omega)); clear hgrow5) | (refine step_seeds rfl (.tmp 48) (.tmp 53) rfl w4.heap.size _ t _ rfl (own_gr3 hown5 (by (repeat (first | (with_reducible exact Gr.refl _) | (with_reducible assumption) | (with_reducible refine Gr.alloc ?_ _) | (with_reducible refine Gr.drew ?_) | (with_reducible refine Gr.set ?_ (by dsimp only; omega) _) | (with_reducible refine Gr.trans ?_ (by with_reducible assumption)))); first | done | fail)) _ 1 1 [x] rfl (by first | exact hone.gr (by (repeat (first | (with_reducible exact Gr.refl _) | (with_reducible assumption) | (with_reducible refine Gr.alloc ?_ _) | (with_reducible refine Gr.drew ?_) | (with_reducible refine Gr.set ?_ (by dsimp only; omega) _) | (with_reducible refine Gr.trans ?_ (by with_reducible assumption)))); first | done | fail) | exact seeds_one' (v := w5) x rfl (by (repeat (first | (with_reducible exact Gr.refl _) | (with_reducible assumption) | (with_reducible refine Gr.alloc ?_ _) | (with_reducible refine Gr.drew ?_) | (with_reducible refine Gr.set ?_ (by dsimp only; omega) _) | (with_reducible refine Gr.trans ?_ (by with_reducible assumption)))); first | done | fail)) (by omega) (N := t + 1) rfl (Gr.size (a := w4) (by (repeat (first | (with_reducible exact Gr.refl _) | (with_reducible assumption) | (with_reducible refine Gr.alloc ?_ _) | (with_reducible refine Gr.drew ?_) | (with_reducible refine Gr.set ?_ (by dsimp only; omega) _) | (with_reducible refine Gr.trans ?_ (by with_reducible assumption)))); first | done | fail)) ?_; intro a6 c6 w6 hown6 hgrow6; have hg6 : Gr w4 w6 := Gr.grown (by (repeat (first | (with_reducible exact Gr.refl _) | (with_reducible assumption) | (with_reducible refine Gr.alloc ?_ _) | (with_reducible refine Gr.drew ?_) | (with_reducible refine Gr.set ?_ (by dsimp only; omega) _) | (with_reducible refine Gr.trans ?_ (by with_reducible assumption)))); first | done | fail) hgrow6 (fun k e => (hown5.lt k e).1); clear hgrow6) | (refine step_seeds rfl (.tmp 54) (.tmp 57) rfl w4.heap.size _ (t + 1) _ rfl (own_gr3 hown6 (by (repeat (first | (with_reducible exact Gr.refl _) | (with_reducible assumption) | (with_reducible refine Gr.alloc ?_ _) | (with_reducible refine Gr.drew ?_) | (with_reducible refine Gr.set ?_ (by dsimp only; omega) _) | (with_reducible refine Gr.trans ?_ (by with_reducible assumption)))); first | done | fail)) _ (m - t) (c1 - t) (D.drop t) rfl (sdr.gr (by (repeat (first | (with_reducible exact Gr.refl _) | (with_reducible assumption) | (with_reducible refine Gr.alloc ?_ _) | (with_reducible refine Gr.drew ?_) | (with_reducible refine Gr.set ?_ (by dsimp only; omega) _) | (with_reducible refine Gr.trans ?_ (by with_reducible assumption)))); first | done | fail)) (by omega) (N := m + 1) (by omega) (Gr.size (a := w4) (by (repeat (first | (with_reducible exact Gr.refl _) | (with_reducible assumption) | (with_reducible refine Gr.alloc ?_ _) | (with_reducible refine Gr.drew ?_) | (with_reducible refine Gr.set ?_ (by dsimp only; omega) _) | (with_reducible refine Gr.trans ?_ (by with_reducible assumption)))); first | done | fail)) ?_; intro a7 c7 w7 hown7 hgrow7; have hg7 : Gr w4 w7 := Gr.grown (by (repeat (first | (with_reducible exact Gr.refl _) | (with_reducible assumption) | (with_reducible refine Gr.alloc ?_ _) | (with_reducible refine Gr.drew ?_) | (with_reducible refine Gr.set ?_ (by dsimp only; omega) _) | (with_reducible refine Gr.trans ?_ (by with_reducible assumption)))); first | done | fail) hgrow7 (fun k e => (hown6.lt k e).1); clear hgrow7))
                    all_goals
                      go_wp2_with fail
                      go_roundw
                      case rel => exact ⟨s + 1, m + 1, c7, a7, hsn, by go_num, rfl, (show Hid _ by rw [HX.out, HDX.out]; show m + 1 = _; rw [List.length_append, List.length_cons, List.length_take, List.length_drop, ← HM.out]; omega), (by rw [HX.out, HDX.out, ← flat3]; exact own_base hown7 (Gr.size (hg.trans hg1))), (hg.trans hg1).trans hg7⟩
                      case measure => simp [intOf]; omega
    · have : s = n := by omega
      subst this
      have HT := hide (show L.take s = L from List.take_of_length_le (by rw [HL.out]; exact Nat.le_refl _))
      rw [HT.out, insAll_srt] at HM hown
      go_wp2
      go_ret
      exact ⟨⟨_, _, _, rfl, HM, hown⟩, hg⟩

end Go.Proofs.Ytobankjdgdjehaa
