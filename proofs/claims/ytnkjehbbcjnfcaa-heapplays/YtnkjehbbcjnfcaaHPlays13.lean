/- HeapPlays: what waits, and what comes first, is what the document says. The walk. -/
import Derived.Test.YtnkjehbbcjnfcaaHPBase13
namespace Go.Proofs.Ytnkjehbbcjnfcaa
open Go.RowKit
set_option maxRecDepth 20000

/-- the heap, and beside it the list of those that wait -/
structure Pq (w u : World) (p : Nat) (a : Option Addr) (n c : Nat) (S : List (Int × Int)) : Prop where
  hs : Hs w u p S (fun t => (Value.slice a n c).ownBlock = some t)
  row : PlS u a n c S
  nil : (a = none ∧ n = 0 ∧ c = 0) ∨ ∃ b o, a = some ⟨b, o, none⟩
theorem Pq.gr {w u u' : World} {p : Nat} {a : Option Addr} {n c : Nat} {S : List (Int × Int)} (h : Pq w u p a n c S) (k : Gr u u') : Pq w u' p a n c S := ⟨h.hs.gr k, h.row.gr k, h.nil⟩
theorem pq_made {w w5 u : World} {p : Nat} {S : List (Int × Int)} {K I : Int} {PB : Nat → Prop} {a : Option Addr} {c m t base : Nat} (hs : Hs w w5 p (insP (K, I) S) PB) (hg : Gr w5 u) (hb : w5.heap.size ≤ base)
    (hown : u.ownsRow base 30 2 (.slice a (m + 1) c) (m + 1) (flatP (S.take t) ++ flatP [(K, I)] ++ flatP (S.drop t))) (HI : insP (K, I) S = S.take t ++ (K, I) :: S.drop t) (hl : S.length = m) : Pq w u p a (m + 1) c (insP (K, I) S) := by
  have e : flatP (S.take t) ++ flatP [(K, I)] ++ flatP (S.drop t) = flatP (insP (K, I) S) := by
    rw [HI, ← flatP_app, ← flatP_app, List.append_assoc]
    rfl
  have hi : (insP (K, I) S).length = m + 1 := by rw [insP_len, hl]
  rw [e, ← hi] at hown
  have hlt := hown.lt
  obtain ⟨a', c', e1, hp⟩ := PlS.of_own hown
  obtain ⟨g, c2, e2, -, -⟩ := World.ownsRow.form hown (by omega)
  cases e1
  cases e2
  rw [hi] at hp
  exact ⟨hs.more hg (fun t ht => ⟨.inr (Nat.le_trans hb (hlt t ht).1), (hlt t ht).2⟩), hp, .inr ⟨g, 0, rfl⟩⟩
theorem pq_rest {w u : World} {p b o o' m c m' c' BX : Nat} {S : List (Int × Int)} (hs : Hs w u p S (fun t => (Value.slice (some ⟨b, o, none⟩) m c).ownBlock = some t ∨ t = BX)) (hr : PlS u (some ⟨b, o', none⟩) m' c' S) : Pq w u p (some ⟨b, o', none⟩) m' c' S :=
  ⟨hs.more (Gr.refl _) (fun t ht => ⟨.inl (.inl ht), hs.pb t (.inl ht)⟩), hr, .inr ⟨b, o', rfl⟩⟩
/-- what the walk is told of the calls that came in -/
structure AsksI (w : World) (ad : Option Addr) (n : Nat) (z : Nat → Nat → Int) : Prop where
  has : n = 0 ∨ ∃ b o, ad = some ⟨b, o, none⟩ ∧ b < w.heap.size ∧ ∀ i, i < n → w.cell? ⟨b, o + i * 3, none⟩ = some (.int .i64 (z i 0)) ∧ w.cell? ⟨b, o + i * 3 + 1, none⟩ = some (.int .i64 (z i 1)) ∧ w.cell? ⟨b, o + i * 3 + 2, none⟩ = some (.int .i64 (z i 2))
theorem AsksI.gr {w w' : World} {ad : Option Addr} {n : Nat} {z : Nat → Nat → Int} (h : AsksI w ad n z) (k : Gr w w') : AsksI w' ad n z := by
  refine ⟨?_⟩
  rcases h.has with h0 | ⟨b, o, e, hb, hc⟩
  · exact .inl h0
  · exact .inr ⟨b, o, e, Nat.lt_of_lt_of_le hb k.size, fun i hi => ⟨cell_gr (hc i hi).1 k, cell_gr (hc i hi).2.1 k, cell_gr (hc i hi).2.2 k⟩⟩
theorem AsksI.at {w : World} {ad : Option Addr} {n : Nat} {z : Nat → Nat → Int} (h : AsksI w ad n z) (hn : 0 < n) : ∃ b o, ad = some ⟨b, o, none⟩ ∧ b < w.heap.size ∧ ∀ i, i < n → w.cell? ⟨b, o + i * 3, none⟩ = some (.int .i64 (z i 0)) ∧ w.cell? ⟨b, o + i * 3 + 1, none⟩ = some (.int .i64 (z i 1)) ∧ w.cell? ⟨b, o + i * 3 + 2, none⟩ = some (.int .i64 (z i 2)) := by
  rcases h.has with h0 | h0
  · omega
  · exact h0

theorem AsksI.of_st {w : World} {a : Option Addr} {n c : Nat} {z : Nat → Nat → Int} (h : IsSt 3 w a n c z) : AsksI w a n z := by
  refine ⟨?_⟩
  rcases h.has (by omega) with h0 | ⟨b, o, e, hb, hc⟩
  · exact .inl h0
  · exact .inr ⟨b, o, e, hb, fun i hi => ⟨(hc i hi 0 (by omega)).1, (hc i hi 1 (by omega)).1, (hc i hi 2 (by omega)).1⟩⟩

set_option maxHeartbeats 8000000 in
theorem heapPlays_any (ad : Option Addr) (n cap : Nat) (z : Nat → Nat → Int) (few : Bool) (w : World) (h : AsksI w ad n z) :
    Calls Try.prog 3 #[.slice ad n cap, .bool few] w fun e w' => e = .returned (.bool true) ∧ Gr w w' := by
  have HH := hide h
  clear h
  go_enter Try.func3, Try.ntmps3
  go_wp2_with fail
  refine (snew (PB := fun t => (Value.slice none 0 0).ownBlock = some t) (Gr.refl w) (fun k hk => by cases hk)).mono ?_
  rintro e w4 ⟨⟨p, rfl, hA⟩, -⟩
  go_wp2_with fail
  go_loopw [6, 7] (fun v i u => ∃ (k : Nat) (a : Option Addr) (m c : Nat) (S : List (Int × Int)), i = .int .i64 k ∧ k ≤ 120 ∧ m ≤ k ∧ v = .slice a m c ∧ Pq w u p a m c S) (fun _ i _ => 120 - (intOf i).toNat)
  case atStart => exact ⟨0, none, 0, 0, [], rfl, Nat.zero_le _, Nat.le_refl _, rfl, hA, ⟨rfl, Nat.le_refl _, Nat.zero_le _, .inl rfl⟩, .inl ⟨rfl, rfl, rfl⟩⟩
  case round =>
    clear hA
    obtain ⟨k, a, m, c, S, rfl, hk, hmk, rfl, hP⟩ := hrel
    go_upto_region 6 with fail
    go_cut [24] from 17 to 164 (fun s u => s = .bool (decide (k < n ∧ k < 120)) ∧ u = wr)
    case first =>
      by_cases h1 : k < n
      · have t1 : (k : Int) < (n : Int) := by omega
        by_cases h3 : k < 120
        · have t3 : (k : Int) < 120 := by omega
          go_wp2_with fail
          go_meet
          exact ⟨by simp [h1, h3], rfl⟩
        · have t3 : ¬ (k : Int) < 120 := by omega
          go_wp2_with fail
          go_meet
          exact ⟨by simp [h3], rfl⟩
      · have t1 : ¬ (k : Int) < (n : Int) := by omega
        go_wp2_with fail
        go_meet
        exact ⟨by simp [h1], rfl⟩
    case rest =>
      obtain ⟨rfl, hwc⟩ := hcut
      subst hwc
      by_cases hdo : k < n ∧ k < 120
      · rw [decide_eq_true hdo]
        obtain ⟨k1, k3⟩ := hdo
        generalize wc = wk at *
        obtain ⟨ba, oa, rfl, -, hca⟩ := (HH.out.gr hP.hs.g).at (by omega)
        obtain ⟨ca, cb, cc⟩ := hca k k1
        have t1 : (k : Int) < (n : Int) := by omega
        have HPq := hide hP
        have hgk := hP.hs.g
        clear hca hP
        generalize z k 0 = X at *
        generalize z k 1 = Y at *
        generalize z k 2 = Z at *
        obtain ⟨BX, hBX⟩ : ∃ BX, BX = wk.heap.size := ⟨_, rfl⟩
        obtain ⟨u1, hu1⟩ : ∃ u1, u1 = wk.alloc (.cells #[.int .i64 X, .int .i64 Y, .int .i64 Z] 27) := ⟨_, rfl⟩
        have hB : u1.rowIs BX 27 3 (tri (.int .i64 X) (.int .i64 Y) (.int .i64 Z)) := by rw [hu1, hBX]; exact tri_alloc wk _ _ _ _
        have hg1 : Gr wk u1 := by rw [hu1]; exact (Gr.refl wk).alloc _
        go_upto_if 31 with fail
        rw [← hu1, ← hBX]
        have zz : wk.heap.size ≤ BX := by omega
        clear hBX hu1
        go_cut [] from 32 to 164 (fun u => ∃ K I : Int, u.rowIs BX 27 3 (tri (.int .i64 X) (.int .i64 K) (.int .i64 I)) ∧ Gr wk u)
        case first =>
          obtain ⟨c1, c2, c3, f1, f2, f3⟩ := row3 hB
          cases few
          · go_wp2_with fail
            go_meet
            exact ⟨Y, Z, hB, hg1⟩
          · as_aux_lemma =>
            go_wp2_with fail
            go_region_with ((go_at_call 8; refine (within_st _ _ _ _ (by omega) (by omega) (by omega)).mono ?_; rintro e w8 ⟨rfl, hw8⟩; subst hw8))
            all_goals
              go_wp2_with fail
              go_meet
              exact ⟨_, _, row_gr (tri_set12 _ _ hB) (Gr.refl _).drew, (gr_set12 _ _ hg1 zz).drew⟩
        case rest =>
          obtain ⟨K, I, hB, hg2⟩ := hcut
          obtain ⟨c1, c2, c3, f1, f2, f3⟩ := row3 hB
          have hP2 := HPq.out.gr hg2
          have hlt := hB.lt
          clear hg1
          go_wp2_with fail
          refine (within_st _ _ _ _ (by omega) (by omega) (by omega)).mono ?_
          rintro e w8 ⟨rfl, hw8⟩
          subst hw8
          obtain ⟨b1, b2⟩ := within_bd X 0 3 (by omega)
          generalize withinF X 0 3 = kind at *
          go_upto_if 44 with fail
          go_cut [6, 10, 11, 12, 13] from 43 to 164 (fun v _ _ _ _ u => ∃ (a' : Option Addr) (m' c' : Nat) (S' : List (Int × Int)), v = .slice a' m' c' ∧ m' ≤ k + 1 ∧ Pq w u p a' m' c' S')
          case first =>
            have hS := HPq.out.hs.more hg2 (PC := fun t => (Value.slice a m c).ownBlock = some t ∨ t = BX) (fun t ht => by
              rcases ht with ht | rfl
              · exact ⟨.inl ht, hP2.hs.pb t ht⟩
              · exact ⟨.inr zz, hlt⟩)
            have hrow := hP2.row
            have hnil := hP2.nil
            have hml := hrow.1
            clear HPq
            by_cases hk2 : kind < 2
            · as_aux_lemma =>
              clear hP2
              go_wp2_with fail
              refine (spush hS K I (by omega)).mono ?_
              rintro e w5 ⟨rfl, hS5, hk5⟩
              replace hrow := hrow.kp (k := m) hk5 (fun t ht q => q (.inl ht))
              replace hB := hk5.row hB (fun q => q (.inr rfl))
              have HN := hide hnil
              have HR := hide hrow
              clear hS hk5 c1 c2 c3 f1 f2 f3 hnil hrow hml
              obtain ⟨c1, c2, c3, -, -, -⟩ := row3 hB
              go_wp2_with fail
              go_loopw [10] (fun av u => ∃ t : Nat, av = .int .i64 t ∧ t ≤ m ∧ Hid (∀ i, i < t → ltP (elP S i) (K, I) = true) ∧ Dr w5 u) (fun av _ => m - (intOf av).toNat)
              case atStart => exact ⟨0, rfl, Nat.zero_le _, hide (fun i hi => by omega), Dr.refl _⟩
              case round =>
                obtain ⟨t, rfl, ht, hlt2, hd⟩ := hrel
                replace c1 := cell_gr c1 hd.gr
                replace c2 := cell_gr c2 hd.gr
                replace c3 := cell_gr c3 hd.gr
                go_upto_region 15 with fail
                go_cut [84] from 51 to 86 (fun s u => s = .bool (decide (t < m) && ltP (elP S t) (K, I)) ∧ Dr w5 u)
                case first =>
                  by_cases h1 : t < m
                  · have t1 : (t : Int) < (m : Int) := by omega
                    obtain ⟨b, o, rfl, -, hc⟩ := (HR.out.gr hd.gr).at (by omega)
                    obtain ⟨d1, d2⟩ := hc t h1
                    clear hc
                    generalize elP S t = y at *
                    obtain ⟨y1, y2⟩ := y
                    simp only at d1 d2
                    have q0 : decide ((t : Int) < (m : Int)) = true := decide_eq_true t1
                    by_cases e1 : y1 < K
                    · have q1 : decide (y1 < K) = true := decide_eq_true e1
                      have hv : Hid ((decide (t < m) && ltP (y1, y2) (K, I)) = true) := hide (by simp [h1, ltP, e1])
                      go_wp2_with fail
                      go_quiet (fail)
                      go_wp2_with fail
                      go_meet
                      exact ⟨by rw [hv.out], by repeat (first | exact Dr.refl _ | assumption | refine Dr.add ?_ | refine Dr.trans ?_ (by assumption))⟩
                    · have q1 : decide (y1 < K) = false := decide_eq_false e1
                      by_cases e2 : y1 = K
                      · have q2 : (y1 == K) = true := by simpa using e2
                        by_cases e3 : y2 < I
                        · have q3 : decide (y2 < I) = true := decide_eq_true e3
                          have E := hide e2
                          clear e2
                          have hv : Hid ((decide (t < m) && ltP (y1, y2) (K, I)) = true) := hide (by simp [h1, ltP, E.out, e3])
                          go_wp2_with fail
                          go_quiet (fail)
                          go_wp2_with fail
                          go_meet
                          exact ⟨by rw [hv.out], by repeat (first | exact Dr.refl _ | assumption | refine Dr.add ?_ | refine Dr.trans ?_ (by assumption))⟩
                        · have q3 : decide (y2 < I) = false := decide_eq_false e3
                          have E := hide e2
                          clear e2
                          have hv : Hid ((decide (t < m) && ltP (y1, y2) (K, I)) = false) := hide (by simp [ltP, E.out, e3])
                          go_wp2_with fail
                          go_quiet (fail)
                          go_wp2_with fail
                          go_meet
                          exact ⟨by rw [hv.out], by repeat (first | exact Dr.refl _ | assumption | refine Dr.add ?_ | refine Dr.trans ?_ (by assumption))⟩
                      · have q2 : (y1 == K) = false := by simpa using e2
                        have hv : Hid ((decide (t < m) && ltP (y1, y2) (K, I)) = false) := hide (by simp [ltP, e1, e2])
                        go_wp2_with fail
                        go_quiet (fail)
                        go_wp2_with fail
                        go_meet
                        exact ⟨by rw [hv.out], by repeat (first | exact Dr.refl _ | assumption | refine Dr.add ?_ | refine Dr.trans ?_ (by assumption))⟩
                  · have t1 : ¬ (t : Int) < (m : Int) := by omega
                    have hv : Hid ((decide (t < m) && ltP (elP S t) (K, I)) = false) := hide (by simp [h1])
                    have q0 : decide ((t : Int) < (m : Int)) = false := decide_eq_false t1
                    go_wp2_with fail
                    go_quiet (fail)
                    go_wp2_with fail
                    go_meet
                    exact ⟨by rw [hv.out], by repeat (first | exact Dr.refl _ | assumption | refine Dr.add ?_ | refine Dr.trans ?_ (by assumption))⟩
                case rest =>
                  obtain ⟨rfl, hd2⟩ := hcut
                  cases hq : (decide (t < m) && ltP (elP S t) (K, I))
                  · have HI : Hid (insP (K, I) S = S.take t ++ (K, I) :: S.drop t) := hide (insP_split (K, I) S t (by rw [HR.out.1]; exact ht) hlt2.out (by
                      rcases Bool.and_eq_false_iff.1 hq with q | q
                      · exact .inl (by have := HR.out.1; have : ¬ t < m := by simpa using q
                                       omega)
                      · exact .inr q))
                    clear hq hlt2 c1 c2 c3 hd
                    obtain ⟨c1, c2, c3, -, -, -⟩ := row3 (row_gr hB hd2.gr)
                    have hrw := HR.out.gr hd2.gr
                    have hmc := hrw.2.1
                    have hcm := hrw.2.2.1
                    rcases HN.out with ⟨rfl, rfl, rfl⟩ | ⟨b, o, rfl⟩
                    · as_aux_lemma =>
                      obtain rfl : t = 0 := by omega
                      have HTk := hide (hrw.take ht)
                      have HDr : Hid (PlS wc none 0 0 (S.drop 0)) := hide hrw
                      clear hrw
                      rw [show ((0 : Nat) : Int) = 0 from rfl]
                      go_wp2_with fail
                      go_region_held3 (fun u => u.cell? ⟨BX, 1, none⟩ = some (.int .i64 K) ∧ u.cell? ⟨BX, 2, none⟩ = some (.int .i64 I) ∧ Gr wc u) (exact ⟨cell_gr c2 (by (repeat (first | (with_reducible exact Gr.refl _) | (with_reducible assumption) | (with_reducible refine Gr.alloc ?_ _) | (with_reducible refine Gr.drew ?_) | (with_reducible refine Gr.set ?_ (by dsimp only; omega) _) | (with_reducible refine Gr.trans ?_ (by with_reducible assumption)))); first | done | fail), cell_gr c3 (by (repeat (first | (with_reducible exact Gr.refl _) | (with_reducible assumption) | (with_reducible refine Gr.alloc ?_ _) | (with_reducible refine Gr.drew ?_) | (with_reducible refine Gr.set ?_ (by dsimp only; omega) _) | (with_reducible refine Gr.trans ?_ (by with_reducible assumption)))); first | done | fail), (by (repeat (first | (with_reducible exact Gr.refl _) | (with_reducible assumption) | (with_reducible refine Gr.alloc ?_ _) | (with_reducible refine Gr.drew ?_) | (with_reducible refine Gr.set ?_ (by dsimp only; omega) _) | (with_reducible refine Gr.trans ?_ (by with_reducible assumption)))); first | done | fail)⟩) (first | (refine step_fresh 25 30 Try.underlying25 info_duo rfl (.tmp 87) (.tmp 90) rfl wc.heap.size _ rfl (by first | exact pairs_emp wc (by with_reducible rfl) (Nat.le_refl _) (by (repeat (first | (with_reducible exact Gr.refl _) | (with_reducible assumption) | (with_reducible refine Gr.alloc ?_ _) | (with_reducible refine Gr.drew ?_) | (with_reducible refine Gr.set ?_ (by dsimp only; omega) _) | (with_reducible refine Gr.trans ?_ (by with_reducible assumption)))); first | done | fail) | exact pairs_emp (wc.alloc (.cells #[.int .i64 K, .int .i64 I] 30)) (by rw [World.size_alloc]) (by omega) (by (repeat (first | (with_reducible exact Gr.refl _) | (with_reducible assumption) | (with_reducible refine Gr.alloc ?_ _) | (with_reducible refine Gr.drew ?_) | (with_reducible refine Gr.set ?_ (by dsimp only; omega) _) | (with_reducible refine Gr.trans ?_ (by with_reducible assumption)))); first | done | fail)) none 0 0 (S.take 0) rfl (HTk.out.gr (by (repeat (first | (with_reducible exact Gr.refl _) | (with_reducible assumption) | (with_reducible refine Gr.alloc ?_ _) | (with_reducible refine Gr.drew ?_) | (with_reducible refine Gr.set ?_ (by dsimp only; omega) _) | (with_reducible refine Gr.trans ?_ (by with_reducible assumption)))); first | done | fail)) (fun _ => ⟨rfl, rfl⟩) (by omega) (Gr.size (a := wc) (by (repeat (first | (with_reducible exact Gr.refl _) | (with_reducible assumption) | (with_reducible refine Gr.alloc ?_ _) | (with_reducible refine Gr.drew ?_) | (with_reducible refine Gr.set ?_ (by dsimp only; omega) _) | (with_reducible refine Gr.trans ?_ (by with_reducible assumption)))); first | done | fail)) ?_; intro a6 c6 w6 hown6 hg6) | (refine step_pairs 25 30 Try.underlying25 info_duo rfl (.tmp 91) (.tmp 97) rfl wc.heap.size (.slice a6 0 c6) 0 (flatP (S.take 0)) rfl (own_grP hown6 (by (repeat (first | (with_reducible exact Gr.refl _) | (with_reducible assumption) | (with_reducible refine Gr.alloc ?_ _) | (with_reducible refine Gr.drew ?_) | (with_reducible refine Gr.set ?_ (by dsimp only; omega) _) | (with_reducible refine Gr.trans ?_ (by with_reducible assumption)))); first | done | fail)) _ 1 1 [(K, I)] rfl (by first | exact pairs_sng wc (K, I) (by with_reducible rfl) (by (repeat (first | (with_reducible exact Gr.refl _) | (with_reducible assumption) | (with_reducible refine Gr.alloc ?_ _) | (with_reducible refine Gr.drew ?_) | (with_reducible refine Gr.set ?_ (by dsimp only; omega) _) | (with_reducible refine Gr.trans ?_ (by with_reducible assumption)))); first | done | fail) | exact pairs_sng (wc.alloc (.cells #[] 30)) (K, I) (by rw [World.size_alloc]) (by (repeat (first | (with_reducible exact Gr.refl _) | (with_reducible assumption) | (with_reducible refine Gr.alloc ?_ _) | (with_reducible refine Gr.drew ?_) | (with_reducible refine Gr.set ?_ (by dsimp only; omega) _) | (with_reducible refine Gr.trans ?_ (by with_reducible assumption)))); first | done | fail) | exact pairs_sng w6 (K, I) (by with_reducible rfl) (by (repeat (first | (with_reducible exact Gr.refl _) | (with_reducible assumption) | (with_reducible refine Gr.alloc ?_ _) | (with_reducible refine Gr.drew ?_) | (with_reducible refine Gr.set ?_ (by dsimp only; omega) _) | (with_reducible refine Gr.trans ?_ (by with_reducible assumption)))); first | done | fail)) (fun h => by cases h) (by omega) (rfl : 0 + 1 = 0 + 1) (Gr.size (a := wc) (by (repeat (first | (with_reducible exact Gr.refl _) | (with_reducible assumption) | (with_reducible refine Gr.alloc ?_ _) | (with_reducible refine Gr.drew ?_) | (with_reducible refine Gr.set ?_ (by dsimp only; omega) _) | (with_reducible refine Gr.trans ?_ (by with_reducible assumption)))); first | done | fail)) ?_; intro a7 c7 w7 hown7 hgrow7; have hg7 : Gr wc w7 := Gr.grown (by (repeat (first | (with_reducible exact Gr.refl _) | (with_reducible assumption) | (with_reducible refine Gr.alloc ?_ _) | (with_reducible refine Gr.drew ?_) | (with_reducible refine Gr.set ?_ (by dsimp only; omega) _) | (with_reducible refine Gr.trans ?_ (by with_reducible assumption)))); first | done | fail) hgrow7 (fun k e => (hown6.lt k e).1)) | (refine step_pairs 25 30 Try.underlying25 info_duo rfl (.tmp 98) (.tmp 101) rfl wc.heap.size (.slice a7 (0 + 1) c7) (0 + 1) (flatP (S.take 0) ++ flatP [(K, I)]) rfl (own_grP hown7 (by (repeat (first | (with_reducible exact Gr.refl _) | (with_reducible assumption) | (with_reducible refine Gr.alloc ?_ _) | (with_reducible refine Gr.drew ?_) | (with_reducible refine Gr.set ?_ (by dsimp only; omega) _) | (with_reducible refine Gr.trans ?_ (by with_reducible assumption)))); first | done | fail)) _ 0 0 (S.drop 0) rfl (HDr.out.gr (by (repeat (first | (with_reducible exact Gr.refl _) | (with_reducible assumption) | (with_reducible refine Gr.alloc ?_ _) | (with_reducible refine Gr.drew ?_) | (with_reducible refine Gr.set ?_ (by dsimp only; omega) _) | (with_reducible refine Gr.trans ?_ (by with_reducible assumption)))); first | done | fail)) (fun _ => ⟨rfl, rfl⟩) (by omega) (by omega : 0 + 1 + 0 = 0 + 1) (Gr.size (a := wc) (by (repeat (first | (with_reducible exact Gr.refl _) | (with_reducible assumption) | (with_reducible refine Gr.alloc ?_ _) | (with_reducible refine Gr.drew ?_) | (with_reducible refine Gr.set ?_ (by dsimp only; omega) _) | (with_reducible refine Gr.trans ?_ (by with_reducible assumption)))); first | done | fail)) ?_; intro a8 c8 w8 hown8 hgrow8; have hg8 : Gr wc w8 := Gr.grown (by (repeat (first | (with_reducible exact Gr.refl _) | (with_reducible assumption) | (with_reducible refine Gr.alloc ?_ _) | (with_reducible refine Gr.drew ?_) | (with_reducible refine Gr.set ?_ (by dsimp only; omega) _) | (with_reducible refine Gr.trans ?_ (by with_reducible assumption)))); first | done | fail) hgrow8 (fun k e => (hown7.lt k e).1)))
                      all_goals go_wp2_with fail
                      all_goals go_meet
                      all_goals
                        exact ⟨a8, 0 + 1, c8, _, rfl, by omega, pq_made hS5 (hd2.gr.trans hg8) hd2.gr.size hown8 HI.out HR.out.1⟩
                    · as_aux_lemma =>
                      have HTk := hide (hrw.take ht)
                      have HDr : Hid (PlS wc (if c = t then some ⟨b, o, none⟩ else some ⟨b, o + t * 2, none⟩) (m - t) (c - t) (S.drop t)) := hide (by
                        split
                        · exact PlS.zip _ _ (by omega) (by rw [List.length_drop, hrw.1]; omega) (by omega)
                        · exact hrw.drop ht)
                      clear hrw
                      have tI : (t : Int) ≤ (c : Int) := by omega
                      have tM : (t : Int) ≤ (m : Int) := by omega
                      go_wp2_with fail
                      go_region_held3 (fun u => u.cell? ⟨BX, 1, none⟩ = some (.int .i64 K) ∧ u.cell? ⟨BX, 2, none⟩ = some (.int .i64 I) ∧ Gr wc u) (exact ⟨cell_gr c2 (by (repeat (first | (with_reducible exact Gr.refl _) | (with_reducible assumption) | (with_reducible refine Gr.alloc ?_ _) | (with_reducible refine Gr.drew ?_) | (with_reducible refine Gr.set ?_ (by dsimp only; omega) _) | (with_reducible refine Gr.trans ?_ (by with_reducible assumption)))); first | done | fail), cell_gr c3 (by (repeat (first | (with_reducible exact Gr.refl _) | (with_reducible assumption) | (with_reducible refine Gr.alloc ?_ _) | (with_reducible refine Gr.drew ?_) | (with_reducible refine Gr.set ?_ (by dsimp only; omega) _) | (with_reducible refine Gr.trans ?_ (by with_reducible assumption)))); first | done | fail), (by (repeat (first | (with_reducible exact Gr.refl _) | (with_reducible assumption) | (with_reducible refine Gr.alloc ?_ _) | (with_reducible refine Gr.drew ?_) | (with_reducible refine Gr.set ?_ (by dsimp only; omega) _) | (with_reducible refine Gr.trans ?_ (by with_reducible assumption)))); first | done | fail)⟩) (first | (refine step_fresh 25 30 Try.underlying25 info_duo rfl (.tmp 87) (.tmp 90) rfl wc.heap.size _ rfl (by first | exact pairs_emp wc (by with_reducible rfl) (Nat.le_refl _) (by (repeat (first | (with_reducible exact Gr.refl _) | (with_reducible assumption) | (with_reducible refine Gr.alloc ?_ _) | (with_reducible refine Gr.drew ?_) | (with_reducible refine Gr.set ?_ (by dsimp only; omega) _) | (with_reducible refine Gr.trans ?_ (by with_reducible assumption)))); first | done | fail) | exact pairs_emp (wc.alloc (.cells #[.int .i64 K, .int .i64 I] 30)) (by rw [World.size_alloc]) (by omega) (by (repeat (first | (with_reducible exact Gr.refl _) | (with_reducible assumption) | (with_reducible refine Gr.alloc ?_ _) | (with_reducible refine Gr.drew ?_) | (with_reducible refine Gr.set ?_ (by dsimp only; omega) _) | (with_reducible refine Gr.trans ?_ (by with_reducible assumption)))); first | done | fail)) (some ⟨b, o, none⟩) t c (S.take t) rfl (HTk.out.gr (by (repeat (first | (with_reducible exact Gr.refl _) | (with_reducible assumption) | (with_reducible refine Gr.alloc ?_ _) | (with_reducible refine Gr.drew ?_) | (with_reducible refine Gr.set ?_ (by dsimp only; omega) _) | (with_reducible refine Gr.trans ?_ (by with_reducible assumption)))); first | done | fail)) (fun h => by cases h) (by omega) (Gr.size (a := wc) (by (repeat (first | (with_reducible exact Gr.refl _) | (with_reducible assumption) | (with_reducible refine Gr.alloc ?_ _) | (with_reducible refine Gr.drew ?_) | (with_reducible refine Gr.set ?_ (by dsimp only; omega) _) | (with_reducible refine Gr.trans ?_ (by with_reducible assumption)))); first | done | fail)) ?_; intro a6 c6 w6 hown6 hg6) | (refine step_pairs 25 30 Try.underlying25 info_duo rfl (.tmp 91) (.tmp 97) rfl wc.heap.size (.slice a6 t c6) t (flatP (S.take t)) rfl (own_grP hown6 (by (repeat (first | (with_reducible exact Gr.refl _) | (with_reducible assumption) | (with_reducible refine Gr.alloc ?_ _) | (with_reducible refine Gr.drew ?_) | (with_reducible refine Gr.set ?_ (by dsimp only; omega) _) | (with_reducible refine Gr.trans ?_ (by with_reducible assumption)))); first | done | fail)) _ 1 1 [(K, I)] rfl (by first | exact pairs_sng wc (K, I) (by with_reducible rfl) (by (repeat (first | (with_reducible exact Gr.refl _) | (with_reducible assumption) | (with_reducible refine Gr.alloc ?_ _) | (with_reducible refine Gr.drew ?_) | (with_reducible refine Gr.set ?_ (by dsimp only; omega) _) | (with_reducible refine Gr.trans ?_ (by with_reducible assumption)))); first | done | fail) | exact pairs_sng (wc.alloc (.cells #[] 30)) (K, I) (by rw [World.size_alloc]) (by (repeat (first | (with_reducible exact Gr.refl _) | (with_reducible assumption) | (with_reducible refine Gr.alloc ?_ _) | (with_reducible refine Gr.drew ?_) | (with_reducible refine Gr.set ?_ (by dsimp only; omega) _) | (with_reducible refine Gr.trans ?_ (by with_reducible assumption)))); first | done | fail) | exact pairs_sng w6 (K, I) (by with_reducible rfl) (by (repeat (first | (with_reducible exact Gr.refl _) | (with_reducible assumption) | (with_reducible refine Gr.alloc ?_ _) | (with_reducible refine Gr.drew ?_) | (with_reducible refine Gr.set ?_ (by dsimp only; omega) _) | (with_reducible refine Gr.trans ?_ (by with_reducible assumption)))); first | done | fail)) (fun h => by cases h) (by omega) (rfl : t + 1 = t + 1) (Gr.size (a := wc) (by (repeat (first | (with_reducible exact Gr.refl _) | (with_reducible assumption) | (with_reducible refine Gr.alloc ?_ _) | (with_reducible refine Gr.drew ?_) | (with_reducible refine Gr.set ?_ (by dsimp only; omega) _) | (with_reducible refine Gr.trans ?_ (by with_reducible assumption)))); first | done | fail)) ?_; intro a7 c7 w7 hown7 hgrow7; have hg7 : Gr wc w7 := Gr.grown (by (repeat (first | (with_reducible exact Gr.refl _) | (with_reducible assumption) | (with_reducible refine Gr.alloc ?_ _) | (with_reducible refine Gr.drew ?_) | (with_reducible refine Gr.set ?_ (by dsimp only; omega) _) | (with_reducible refine Gr.trans ?_ (by with_reducible assumption)))); first | done | fail) hgrow7 (fun k e => (hown6.lt k e).1)) | (refine step_pairs 25 30 Try.underlying25 info_duo rfl (.tmp 98) (.tmp 101) rfl wc.heap.size (.slice a7 (t + 1) c7) (t + 1) (flatP (S.take t) ++ flatP [(K, I)]) rfl (own_grP hown7 (by (repeat (first | (with_reducible exact Gr.refl _) | (with_reducible assumption) | (with_reducible refine Gr.alloc ?_ _) | (with_reducible refine Gr.drew ?_) | (with_reducible refine Gr.set ?_ (by dsimp only; omega) _) | (with_reducible refine Gr.trans ?_ (by with_reducible assumption)))); first | done | fail)) _ (m - t) (c - t) (S.drop t) rfl (HDr.out.gr (by (repeat (first | (with_reducible exact Gr.refl _) | (with_reducible assumption) | (with_reducible refine Gr.alloc ?_ _) | (with_reducible refine Gr.drew ?_) | (with_reducible refine Gr.set ?_ (by dsimp only; omega) _) | (with_reducible refine Gr.trans ?_ (by with_reducible assumption)))); first | done | fail)) (fun h => by split at h <;> cases h) (by omega) (by omega : t + 1 + (m - t) = m + 1) (Gr.size (a := wc) (by (repeat (first | (with_reducible exact Gr.refl _) | (with_reducible assumption) | (with_reducible refine Gr.alloc ?_ _) | (with_reducible refine Gr.drew ?_) | (with_reducible refine Gr.set ?_ (by dsimp only; omega) _) | (with_reducible refine Gr.trans ?_ (by with_reducible assumption)))); first | done | fail)) ?_; intro a8 c8 w8 hown8 hgrow8; have hg8 : Gr wc w8 := Gr.grown (by (repeat (first | (with_reducible exact Gr.refl _) | (with_reducible assumption) | (with_reducible refine Gr.alloc ?_ _) | (with_reducible refine Gr.drew ?_) | (with_reducible refine Gr.set ?_ (by dsimp only; omega) _) | (with_reducible refine Gr.trans ?_ (by with_reducible assumption)))); first | done | fail) hgrow8 (fun k e => (hown7.lt k e).1)))
                      all_goals go_wp2_with fail
                      all_goals go_meet
                      all_goals
                        exact ⟨a8, m + 1, c8, _, rfl, by omega, pq_made hS5 (hd2.gr.trans hg8) hd2.gr.size hown8 HI.out HR.out.1⟩
                  · obtain ⟨h1, h2⟩ := Bool.and_eq_true_iff.1 hq
                    have h1 : t < m := by simpa using h1
                    have HT : Hid (∀ i, i < t + 1 → ltP (elP S i) (K, I) = true) := hide fun i hi => by
                      by_cases e : i = t
                      · rw [e]; exact h2
                      · exact hlt2.out i (by omega)
                    clear hq h2
                    go_wp2_with fail
                    go_roundw
                    case rel => exact ⟨t + 1, by go_num, by omega, HT, hd2⟩
                    case measure => simp [intOf]; omega
            · as_aux_lemma =>
              have hk0 : Hid (2 ≤ kind ∧ kind ≤ 3) := hide ⟨by omega, b2⟩
              cases S with
              | nil =>
                obtain rfl : m = 0 := by simpa using hml.symm
                go_wp2_with fail
                refine (stop_no hS).mono ?_
                rintro e w5 ⟨rfl, rfl⟩
                by_cases e2 : kind = 2
                · have e2' : (kind == 2) = true := by simpa using e2
                  clear e2
                  go_wp2_with fail
                  refine (spop_no hS).mono ?_
                  rintro e w6 ⟨rfl, rfl⟩
                  go_wp2_with fail
                  go_meet
                  exact ⟨a, 0, c, [], rfl, Nat.zero_le _, hP2⟩
                · have e2' : (kind == 2) = false := by simpa using e2
                  go_wp2_with fail
                  go_meet
                  exact ⟨a, 0, c, [], rfl, Nat.zero_le _, hP2⟩
              | cons y S =>
                obtain ⟨b, o, rfl, -, hc⟩ := hrow.at (by rw [← hml, List.length_cons]; omega)
                obtain ⟨d1, d2⟩ := hc 0 (by rw [← hml, List.length_cons]; omega)
                rw [show elP (y :: S) 0 = y from rfl, Nat.zero_mul, Nat.add_zero] at d1 d2
                clear hc
                have hm0 : (0 : Int) < (m : Int) := by rw [← hml, List.length_cons]; omega
                have hm1 : (1 : Int) ≤ (m : Int) := by omega
                have hmc := hrow.2.1
                have HML := hide hml
                have HP2 := hide hP2
                clear hml hP2
                go_wp2_with fail
                refine (stop hS).mono ?_
                rintro e w5 ⟨rfl, hg5⟩
                replace hS := hS.gr hg5
                replace hrow := hrow.gr hg5
                replace d1 := cell_gr d1 hg5
                replace d2 := cell_gr d2 hg5
                by_cases e2 : kind = 2
                · have e2' : (kind == 2) = true := by simpa using e2
                  clear e2
                  go_wp2_with fail
                  refine (spop hS (by have := HML.out; rw [List.length_cons] at this; omega)).mono ?_
                  rintro e w6 ⟨rfl, hS6, hk6⟩
                  replace hrow := hrow.kp (k := m) hk6 (fun t ht q => q (.inl ht))
                  have hnb : ¬ ¬ ((Value.slice (some ⟨b, o, none⟩) m c).ownBlock = some b ∨ b = BX) := fun q => q (.inl rfl)
                  replace d1 := hk6.cell d1 hnb
                  replace d2 := hk6.cell d2 hnb
                  clear hnb
                  have HR := hide hrow
                  clear hrow hk6 hS
                  by_cases hc1 : c = 1
                  · subst hc1
                    have hml2 := HML.out
                    rw [List.length_cons] at hml2
                    have HQ : Hid (PlS w6 (some ⟨b, o, none⟩) 0 0 S) := hide (PlS.zip _ _ rfl (by omega) (Nat.zero_le _))
                    obtain rfl : m = 1 := by omega
                    clear hml2
                    go_wp2_with fail
                    go_meet
                    exact ⟨_, 0, 0, S, rfl, by omega, pq_rest hS6 HQ.out⟩
                  · have HQ : Hid (PlS w6 (some ⟨b, o + 2, none⟩) (m - 1) (c - 1) S) := hide (HR.out.drop (m := 1) (by omega))
                    go_wp2_with fail
                    go_meet
                    exact ⟨_, m - 1, c - 1, S, rfl, by omega, pq_rest hS6 HQ.out⟩
                · have e2' : (kind == 2) = false := by simpa using e2
                  go_wp2_with fail
                  go_meet
                  exact ⟨_, m, c, _, rfl, by omega, HP2.out.gr hg5⟩
          case rest =>
            obtain ⟨a', m', c', S', rfl, hm', hP'⟩ := hcut
            go_wp2_with fail
            refine (slen hP'.hs).mono ?_
            rintro e w9 ⟨rfl, rfl⟩
            have hlm := hP'.row.1
            rw [hlm]
            go_wp2_with fail
            go_roundw
            case rel => exact ⟨k + 1, a', m', c', S', by go_num, by omega, hm', rfl, hP'⟩
            case measure => simp [intOf]; omega
      · rw [decide_eq_false hdo]
        clear hdo
        go_wp2_with fail
        refine (told13_any _).mono ?_
        rintro e w6 ⟨rfl, hg⟩
        go_wp2_with fail
        go_ret
        exact ⟨rfl, hP.hs.g.trans hg⟩
end Go.Proofs.Ytnkjehbbcjnfcaa
