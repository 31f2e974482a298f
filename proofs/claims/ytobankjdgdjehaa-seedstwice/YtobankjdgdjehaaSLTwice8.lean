/- SeedsTwice's walk: it answers true at every input; nothing that was there is written. -/
import Derived.Test.YtobankjdgdjehaaSLSorts8
namespace Go.Proofs.Ytobankjdgdjehaa
open Go.RowKit
set_option maxRecDepth 20000

theorem turned_mem (S : List Sd) (t : Nat) (x : Sd) : x ∈ S.drop t ++ S.take t ↔ x ∈ S := by
  have e := List.take_append_drop t S
  rw [List.mem_append]
  constructor
  · rintro (h | h)
    · exact List.mem_of_mem_drop h
    · exact List.mem_of_mem_take h
  · intro h
    rw [← e] at h
    exact (List.mem_append.1 h).symm
theorem turned_srt (S : List Sd) (t : Nat) : srt (S.drop t ++ S.take t) = srt S := srt_congr (turned_mem S t)
theorem turned6 {w : World} {base n c t : Nat} {a : Option Addr} {S : List Sd} (h : w.ownsRow base 38 3 (.slice a n c) n ([] ++ flatS (S.drop t) ++ flatS (S.take t))) (hl : S.length = n) :
    (a = none ∨ ∃ b o, a = some ⟨b, o, none⟩) ∧ SlS w a n c (S.drop t ++ S.take t) := by
  have e : [] ++ flatS (S.drop t) ++ flatS (S.take t) = flatS (S.drop t ++ S.take t) := by simp [flatS]
  rw [e] at h
  refine ⟨plain_own h, sls_own h ?_⟩
  rw [List.length_append, List.length_drop, List.length_take, hl]
  omega
theorem any_next {S : List Sd} {x y : Sd} {k : Nat} {q r : Bool} (h : q = decide (∃ i, i < k ∧ el S i = x)) (hy : y = el S k) (hr : r = (q || decide (y = x))) : Hid (r = decide (∃ i, i < k + 1 ∧ el S i = x)) := by
  show r = _
  rw [hr, h, ← Bool.decide_or, decide_eq_decide]
  constructor
  · rintro (⟨i, hi, e⟩ | e)
    · exact ⟨i, by omega, e⟩
    · exact ⟨k, by omega, by rw [← hy, e]⟩
  · rintro ⟨i, hi, e⟩
    rcases (by omega : i < k ∨ i = k) with c | rfl
    · exact .inl ⟨i, c, e⟩
    · exact .inr (by rw [hy, e])
theorem any_all {S : List Sd} {x : Sd} {n : Nat} {q : Bool} (h : q = decide (∃ i, i < n ∧ el S i = x)) (hl : S.length = n) (hx : x ∈ S) : q = true := by
  rw [h, decide_eq_true_iff]
  obtain ⟨i, hi, e⟩ := mem_el hx
  exact ⟨i, by omega, e⟩
theorem rise_el {X : List Sd} (h : Rise X) {i : Nat} (hi : i + 1 < X.length) : ltS (el X i) (el X (i + 1)) = true := by
  have := (List.pairwise_iff_getElem.1 h) i (i + 1) (by omega) hi (by omega)
  rwa [el_getElem, el_getElem] at this

set_option maxHeartbeats 4000000 in
theorem seedsTwice_any (a : Option Addr) (n c : Nat) (L : List Sd) (turn : Int) (w : World) (h : SlS w a n c L) :
    Calls Try.prog 5 #[.slice a n c, .int .i64 turn] w fun e w' => e = .returned (.bool true) ∧ Gr w w' := by
  go_enter Try.func5, Try.ntmps5
  go_wp2_with fail
  refine (few_l a n c L w h).mono ?_
  rintro e w1 ⟨⟨a1, c1, n1, rfl, q1, k1, hown1, s1⟩, hg1⟩
  generalize L.take 60 = S at *
  clear h
  go_wp2_with fail
  refine (sort_any a1 n1 c1 S w1 s1 (plain_own hown1) (by omega)).mono ?_
  rintro e w2 ⟨⟨a2, c2, m2, hm2, rfl, hown2⟩, hg2⟩
  have HM2 := hide hm2
  have hm60 : m2 ≤ 60 := by rw [hm2]; exact Nat.le_trans (srt_len S) (by rw [k1.out]; exact q1)
  clear hm2
  go_wp2_with fail
  refine (within_any turn 0 (n1 : Int) _ (by omega) (by omega) (by omega)).mono ?_
  rintro e w3 ⟨rfl, hd3⟩
  obtain ⟨b1, b2⟩ := within_bd turn 0 (n1 : Int) (by omega)
  obtain ⟨t, ht'⟩ : ∃ t : Nat, withinF turn 0 (n1 : Int) = (t : Int) := ⟨_, (Int.toNat_of_nonneg b1).symm⟩
  rw [ht'] at b1 b2 ⊢
  have ht : t ≤ n1 := by omega
  clear ht' b1 b2
  have s3 : SlS w3 a1 n1 c1 S := (s1.gr hg2).gr hd3.gr
  have x3 : SlS w3 a2 m2 c2 (srt S) := (sls_own hown2 HM2.out.symm).gr hd3.gr
  have hgr : Gr w w3 := (hg1.trans hg2).trans hd3.gr
  have hown3 := own_gr3 (own_gr3 hown1 hg2) hd3.gr
  have HPL := hide (plain_own hown2)
  have HL := k1
  clear hown1 hown2 hg1 hg2 hd3 s1
  generalize w3 = w4 at *
  go_upto_region 4 with fail
  go_cut [8] from 23 (fun v u => ∃ (a3 : Option Addr) (c3 m3 : Nat), v = .slice a3 m3 c3 ∧ Hid (m3 = (srt S).length) ∧ SlS u a3 m3 c3 (srt S) ∧ Gr w4 u)
  case first =>
    have hlen := s3.len
    rcases hown3.2 with ⟨e, e0⟩ | ⟨g1, cap, cur, e, hbase, r⟩
    · cases e
      have ht0 : t = 0 := by omega
      subst ht0
      have SD : Hid (SlS w4 none 0 0 (S.drop 0)) := s3
      have ST : Hid (SlS w4 none 0 0 (S.take 0)) := s3.take (Nat.le_refl 0)
      clear s3 x3 hown3 hlen
      go_wp2_with fail
      go_region_held3 (fun u => Gr w4 u) (exact (by (repeat (first | (with_reducible exact Gr.refl _) | (with_reducible assumption) | (with_reducible refine Gr.alloc ?_ _) | (with_reducible refine Gr.drew ?_) | (with_reducible refine Gr.set ?_ (by dsimp only; omega) _) | (with_reducible refine Gr.trans ?_ (by with_reducible assumption)))); first | done | fail)) (first | (refine step_seeds rfl (.tmp 23) (.tmp 26) rfl w4.heap.size (.slice (some ⟨w4.heap.size, 0, none⟩) 0 0) 0 [] rfl (seeds_empty' (v := w4) rfl (Nat.le_refl _) (by (repeat (first | (with_reducible exact Gr.refl _) | (with_reducible assumption) | (with_reducible refine Gr.alloc ?_ _) | (with_reducible refine Gr.drew ?_) | (with_reducible refine Gr.set ?_ (by dsimp only; omega) _) | (with_reducible refine Gr.trans ?_ (by with_reducible assumption)))); first | done | fail)) _ 0 0 (S.drop 0) rfl (SD.out.gr (by (repeat (first | (with_reducible exact Gr.refl _) | (with_reducible assumption) | (with_reducible refine Gr.alloc ?_ _) | (with_reducible refine Gr.drew ?_) | (with_reducible refine Gr.set ?_ (by dsimp only; omega) _) | (with_reducible refine Gr.trans ?_ (by with_reducible assumption)))); first | done | fail)) (by omega) (rfl : 0 + 0 = 0) (Gr.size (a := w4) (by (repeat (first | (with_reducible exact Gr.refl _) | (with_reducible assumption) | (with_reducible refine Gr.alloc ?_ _) | (with_reducible refine Gr.drew ?_) | (with_reducible refine Gr.set ?_ (by dsimp only; omega) _) | (with_reducible refine Gr.trans ?_ (by with_reducible assumption)))); first | done | fail)) ?_; intro a5 c5 w5 hown5 hgrow5; have hg5 : Gr w4 w5 := Gr.grown (by (repeat (first | (with_reducible exact Gr.refl _) | (with_reducible assumption) | (with_reducible refine Gr.alloc ?_ _) | (with_reducible refine Gr.drew ?_) | (with_reducible refine Gr.set ?_ (by dsimp only; omega) _) | (with_reducible refine Gr.trans ?_ (by with_reducible assumption)))); first | done | fail) hgrow5 (by intro k e; cases e; exact Nat.le_refl _); clear hgrow5) | (refine step_seeds rfl (.tmp 27) (.tmp 30) rfl w4.heap.size _ 0 _ rfl (own_gr3 hown5 (by (repeat (first | (with_reducible exact Gr.refl _) | (with_reducible assumption) | (with_reducible refine Gr.alloc ?_ _) | (with_reducible refine Gr.drew ?_) | (with_reducible refine Gr.set ?_ (by dsimp only; omega) _) | (with_reducible refine Gr.trans ?_ (by with_reducible assumption)))); first | done | fail)) _ 0 0 (S.take 0) rfl (ST.out.gr (by (repeat (first | (with_reducible exact Gr.refl _) | (with_reducible assumption) | (with_reducible refine Gr.alloc ?_ _) | (with_reducible refine Gr.drew ?_) | (with_reducible refine Gr.set ?_ (by dsimp only; omega) _) | (with_reducible refine Gr.trans ?_ (by with_reducible assumption)))); first | done | fail)) (by omega) (rfl : 0 + 0 = 0) (Gr.size (a := w4) (by (repeat (first | (with_reducible exact Gr.refl _) | (with_reducible assumption) | (with_reducible refine Gr.alloc ?_ _) | (with_reducible refine Gr.drew ?_) | (with_reducible refine Gr.set ?_ (by dsimp only; omega) _) | (with_reducible refine Gr.trans ?_ (by with_reducible assumption)))); first | done | fail)) ?_; intro a6 c6 w6 hown6 hgrow6; have hg6 : Gr w4 w6 := Gr.grown (by (repeat (first | (with_reducible exact Gr.refl _) | (with_reducible assumption) | (with_reducible refine Gr.alloc ?_ _) | (with_reducible refine Gr.drew ?_) | (with_reducible refine Gr.set ?_ (by dsimp only; omega) _) | (with_reducible refine Gr.trans ?_ (by with_reducible assumption)))); first | done | fail) hgrow6 (fun k e => (hown5.lt k e).1); clear hgrow6; obtain ⟨hp6, hs6⟩ := turned6 (S := S) (t := 0) hown6 HL.out) | (go_at_call 19; refine (sort_any a6 0 c6 _ _ (hs6.gr (by (repeat (first | (with_reducible exact Gr.refl _) | (with_reducible assumption) | (with_reducible refine Gr.alloc ?_ _) | (with_reducible refine Gr.drew ?_) | (with_reducible refine Gr.set ?_ (by dsimp only; omega) _) | (with_reducible refine Gr.trans ?_ (by with_reducible assumption)))); first | done | fail)) hp6 (by omega)).mono ?_; rintro e7 w7 ⟨⟨a7, c7, m7, hm7, rfl, hown7⟩, hg7⟩; rw [turned_srt] at hm7 hown7; have HM7 := hide hm7; clear hm7))
      all_goals
        go_wp2_with fail
        go_meet
        exact ⟨a7, c7, m7, rfl, HM7, sls_own hown7 HM7.out.symm, Gr.trans (by (repeat (first | (with_reducible exact Gr.refl _) | (with_reducible assumption) | (with_reducible refine Gr.alloc ?_ _) | (with_reducible refine Gr.drew ?_) | (with_reducible refine Gr.set ?_ (by dsimp only; omega) _) | (with_reducible refine Gr.trans ?_ (by with_reducible assumption)))); first | done | fail) hg7⟩
    · cases e
      clear r
      have htc : t ≤ c1 := by omega
      have h0d : 0 + (n1 - t) = n1 - t := Nat.zero_add _
      have hN : n1 - t + t = n1 := by omega
      have ST := hide (s3.take ht)
      by_cases hct : c1 = t
      · have SD : Hid (SlS w4 (some ⟨g1, 0, none⟩) (n1 - t) (c1 - t) (S.drop t)) := .inr ⟨_, rfl, by rw [List.length_drop, HL.out], by omega, by omega, .inl (by omega)⟩
        have hct' : (c1 = t) = True := eq_true hct
        clear hct
        clear s3 x3 hown3
        go_wp2_with fail
        go_region_held3 (fun u => Gr w4 u) (exact (by (repeat (first | (with_reducible exact Gr.refl _) | (with_reducible assumption) | (with_reducible refine Gr.alloc ?_ _) | (with_reducible refine Gr.drew ?_) | (with_reducible refine Gr.set ?_ (by dsimp only; omega) _) | (with_reducible refine Gr.trans ?_ (by with_reducible assumption)))); first | done | fail)) (first | (refine step_seeds rfl (.tmp 23) (.tmp 26) rfl w4.heap.size (.slice (some ⟨w4.heap.size, 0, none⟩) 0 0) 0 [] rfl (seeds_empty' (v := w4) rfl (Nat.le_refl _) (by (repeat (first | (with_reducible exact Gr.refl _) | (with_reducible assumption) | (with_reducible refine Gr.alloc ?_ _) | (with_reducible refine Gr.drew ?_) | (with_reducible refine Gr.set ?_ (by dsimp only; omega) _) | (with_reducible refine Gr.trans ?_ (by with_reducible assumption)))); first | done | fail)) _ (n1 - t) (c1 - t) (S.drop t) rfl (SD.out.gr (by (repeat (first | (with_reducible exact Gr.refl _) | (with_reducible assumption) | (with_reducible refine Gr.alloc ?_ _) | (with_reducible refine Gr.drew ?_) | (with_reducible refine Gr.set ?_ (by dsimp only; omega) _) | (with_reducible refine Gr.trans ?_ (by with_reducible assumption)))); first | done | fail)) (by omega) h0d (Gr.size (a := w4) (by (repeat (first | (with_reducible exact Gr.refl _) | (with_reducible assumption) | (with_reducible refine Gr.alloc ?_ _) | (with_reducible refine Gr.drew ?_) | (with_reducible refine Gr.set ?_ (by dsimp only; omega) _) | (with_reducible refine Gr.trans ?_ (by with_reducible assumption)))); first | done | fail)) ?_; intro a5 c5 w5 hown5 hgrow5; have hg5 : Gr w4 w5 := Gr.grown (by (repeat (first | (with_reducible exact Gr.refl _) | (with_reducible assumption) | (with_reducible refine Gr.alloc ?_ _) | (with_reducible refine Gr.drew ?_) | (with_reducible refine Gr.set ?_ (by dsimp only; omega) _) | (with_reducible refine Gr.trans ?_ (by with_reducible assumption)))); first | done | fail) hgrow5 (by intro k e; cases e; exact Nat.le_refl _); clear hgrow5) | (refine step_seeds rfl (.tmp 27) (.tmp 30) rfl w4.heap.size _ (n1 - t) _ rfl (own_gr3 hown5 (by (repeat (first | (with_reducible exact Gr.refl _) | (with_reducible assumption) | (with_reducible refine Gr.alloc ?_ _) | (with_reducible refine Gr.drew ?_) | (with_reducible refine Gr.set ?_ (by dsimp only; omega) _) | (with_reducible refine Gr.trans ?_ (by with_reducible assumption)))); first | done | fail)) _ t c1 (S.take t) rfl (ST.out.gr (by (repeat (first | (with_reducible exact Gr.refl _) | (with_reducible assumption) | (with_reducible refine Gr.alloc ?_ _) | (with_reducible refine Gr.drew ?_) | (with_reducible refine Gr.set ?_ (by dsimp only; omega) _) | (with_reducible refine Gr.trans ?_ (by with_reducible assumption)))); first | done | fail)) (by omega) hN (Gr.size (a := w4) (by (repeat (first | (with_reducible exact Gr.refl _) | (with_reducible assumption) | (with_reducible refine Gr.alloc ?_ _) | (with_reducible refine Gr.drew ?_) | (with_reducible refine Gr.set ?_ (by dsimp only; omega) _) | (with_reducible refine Gr.trans ?_ (by with_reducible assumption)))); first | done | fail)) ?_; intro a6 c6 w6 hown6 hgrow6; have hg6 : Gr w4 w6 := Gr.grown (by (repeat (first | (with_reducible exact Gr.refl _) | (with_reducible assumption) | (with_reducible refine Gr.alloc ?_ _) | (with_reducible refine Gr.drew ?_) | (with_reducible refine Gr.set ?_ (by dsimp only; omega) _) | (with_reducible refine Gr.trans ?_ (by with_reducible assumption)))); first | done | fail) hgrow6 (fun k e => (hown5.lt k e).1); clear hgrow6; obtain ⟨hp6, hs6⟩ := turned6 (S := S) (t := t) hown6 HL.out) | (go_at_call 19; refine (sort_any a6 n1 c6 _ _ (hs6.gr (by (repeat (first | (with_reducible exact Gr.refl _) | (with_reducible assumption) | (with_reducible refine Gr.alloc ?_ _) | (with_reducible refine Gr.drew ?_) | (with_reducible refine Gr.set ?_ (by dsimp only; omega) _) | (with_reducible refine Gr.trans ?_ (by with_reducible assumption)))); first | done | fail)) hp6 (by omega)).mono ?_; rintro e7 w7 ⟨⟨a7, c7, m7, hm7, rfl, hown7⟩, hg7⟩; rw [turned_srt] at hm7 hown7; have HM7 := hide hm7; clear hm7))
        all_goals
          go_wp2_with fail
          go_meet
          exact ⟨a7, c7, m7, rfl, HM7, sls_own hown7 HM7.out.symm, Gr.trans (by (repeat (first | (with_reducible exact Gr.refl _) | (with_reducible assumption) | (with_reducible refine Gr.alloc ?_ _) | (with_reducible refine Gr.drew ?_) | (with_reducible refine Gr.set ?_ (by dsimp only; omega) _) | (with_reducible refine Gr.trans ?_ (by with_reducible assumption)))); first | done | fail) hg7⟩
      · have SD := s3.drop ht
        rw [Nat.zero_add] at SD
        replace SD := hide SD
        clear s3 x3 hown3
        go_wp2_with fail
        go_region_held3 (fun u => Gr w4 u) (exact (by (repeat (first | (with_reducible exact Gr.refl _) | (with_reducible assumption) | (with_reducible refine Gr.alloc ?_ _) | (with_reducible refine Gr.drew ?_) | (with_reducible refine Gr.set ?_ (by dsimp only; omega) _) | (with_reducible refine Gr.trans ?_ (by with_reducible assumption)))); first | done | fail)) (first | (refine step_seeds rfl (.tmp 23) (.tmp 26) rfl w4.heap.size (.slice (some ⟨w4.heap.size, 0, none⟩) 0 0) 0 [] rfl (seeds_empty' (v := w4) rfl (Nat.le_refl _) (by (repeat (first | (with_reducible exact Gr.refl _) | (with_reducible assumption) | (with_reducible refine Gr.alloc ?_ _) | (with_reducible refine Gr.drew ?_) | (with_reducible refine Gr.set ?_ (by dsimp only; omega) _) | (with_reducible refine Gr.trans ?_ (by with_reducible assumption)))); first | done | fail)) _ (n1 - t) (c1 - t) (S.drop t) rfl (SD.out.gr (by (repeat (first | (with_reducible exact Gr.refl _) | (with_reducible assumption) | (with_reducible refine Gr.alloc ?_ _) | (with_reducible refine Gr.drew ?_) | (with_reducible refine Gr.set ?_ (by dsimp only; omega) _) | (with_reducible refine Gr.trans ?_ (by with_reducible assumption)))); first | done | fail)) (by omega) h0d (Gr.size (a := w4) (by (repeat (first | (with_reducible exact Gr.refl _) | (with_reducible assumption) | (with_reducible refine Gr.alloc ?_ _) | (with_reducible refine Gr.drew ?_) | (with_reducible refine Gr.set ?_ (by dsimp only; omega) _) | (with_reducible refine Gr.trans ?_ (by with_reducible assumption)))); first | done | fail)) ?_; intro a5 c5 w5 hown5 hgrow5; have hg5 : Gr w4 w5 := Gr.grown (by (repeat (first | (with_reducible exact Gr.refl _) | (with_reducible assumption) | (with_reducible refine Gr.alloc ?_ _) | (with_reducible refine Gr.drew ?_) | (with_reducible refine Gr.set ?_ (by dsimp only; omega) _) | (with_reducible refine Gr.trans ?_ (by with_reducible assumption)))); first | done | fail) hgrow5 (by intro k e; cases e; exact Nat.le_refl _); clear hgrow5) | (refine step_seeds rfl (.tmp 27) (.tmp 30) rfl w4.heap.size _ (n1 - t) _ rfl (own_gr3 hown5 (by (repeat (first | (with_reducible exact Gr.refl _) | (with_reducible assumption) | (with_reducible refine Gr.alloc ?_ _) | (with_reducible refine Gr.drew ?_) | (with_reducible refine Gr.set ?_ (by dsimp only; omega) _) | (with_reducible refine Gr.trans ?_ (by with_reducible assumption)))); first | done | fail)) _ t c1 (S.take t) rfl (ST.out.gr (by (repeat (first | (with_reducible exact Gr.refl _) | (with_reducible assumption) | (with_reducible refine Gr.alloc ?_ _) | (with_reducible refine Gr.drew ?_) | (with_reducible refine Gr.set ?_ (by dsimp only; omega) _) | (with_reducible refine Gr.trans ?_ (by with_reducible assumption)))); first | done | fail)) (by omega) hN (Gr.size (a := w4) (by (repeat (first | (with_reducible exact Gr.refl _) | (with_reducible assumption) | (with_reducible refine Gr.alloc ?_ _) | (with_reducible refine Gr.drew ?_) | (with_reducible refine Gr.set ?_ (by dsimp only; omega) _) | (with_reducible refine Gr.trans ?_ (by with_reducible assumption)))); first | done | fail)) ?_; intro a6 c6 w6 hown6 hgrow6; have hg6 : Gr w4 w6 := Gr.grown (by (repeat (first | (with_reducible exact Gr.refl _) | (with_reducible assumption) | (with_reducible refine Gr.alloc ?_ _) | (with_reducible refine Gr.drew ?_) | (with_reducible refine Gr.set ?_ (by dsimp only; omega) _) | (with_reducible refine Gr.trans ?_ (by with_reducible assumption)))); first | done | fail) hgrow6 (fun k e => (hown5.lt k e).1); clear hgrow6; obtain ⟨hp6, hs6⟩ := turned6 (S := S) (t := t) hown6 HL.out) | (go_at_call 19; refine (sort_any a6 n1 c6 _ _ (hs6.gr (by (repeat (first | (with_reducible exact Gr.refl _) | (with_reducible assumption) | (with_reducible refine Gr.alloc ?_ _) | (with_reducible refine Gr.drew ?_) | (with_reducible refine Gr.set ?_ (by dsimp only; omega) _) | (with_reducible refine Gr.trans ?_ (by with_reducible assumption)))); first | done | fail)) hp6 (by omega)).mono ?_; rintro e7 w7 ⟨⟨a7, c7, m7, hm7, rfl, hown7⟩, hg7⟩; rw [turned_srt] at hm7 hown7; have HM7 := hide hm7; clear hm7))
        all_goals
          go_wp2_with fail
          go_meet
          exact ⟨a7, c7, m7, rfl, HM7, sls_own hown7 HM7.out.symm, Gr.trans (by (repeat (first | (with_reducible exact Gr.refl _) | (with_reducible assumption) | (with_reducible refine Gr.alloc ?_ _) | (with_reducible refine Gr.drew ?_) | (with_reducible refine Gr.set ?_ (by dsimp only; omega) _) | (with_reducible refine Gr.trans ?_ (by with_reducible assumption)))); first | done | fail) hg7⟩
  case rest =>
    obtain ⟨a3, c3, m3, rfl, HM3, y4, hg4⟩ := hcut
    generalize wc = w5 at *
    replace s3 := s3.gr hg4
    replace x3 := x3.gr hg4
    replace hgr := hgr.trans hg4
    clear hown3 hg4 ht
    have HR := hide (srt_rise S)
    have HME := hide (srt_mem S)
    generalize srt S = X at *
    have HXL := hide HM2.out.symm
    go_wp2_with fail
    go_loopw [9] (fun i u => ∃ (s : Nat), s ≤ m2 ∧ i = .int .i64 s ∧ Dr w5 u) (fun i _ => m2 - (intOf i).toNat)
    case atStart => exact ⟨0, by omega, rfl, Dr.refl _⟩
    case round =>
      obtain ⟨s, hs, rfl, hd0⟩ := hrel
      generalize wr = w6 at *
      have s6 := s3.gr hd0.gr
      have x6 := x3.gr hd0.gr
      by_cases hsn : s < m2
      · have hsn2 : (s : Int) < (m2 : Int) := by omega
        obtain ⟨B, o, rfl, hB, hc⟩ := x6.at (by omega)
        obtain ⟨x1, x2, x3'⟩ := hc s hsn
        have HC := hide hc
        obtain ⟨x, hx⟩ : ∃ x : Sd, x = el X s := ⟨_, rfl⟩
        rw [← hx] at x1 x2 x3'
        have HX := hide hx
        clear hc hx
        go_wp2_with fail
        go_loopw [10, 11] (fun b j u => ∃ (k : Nat) (q : Bool), k ≤ n1 ∧ j = .int .i64 k ∧ b = .bool q ∧ Hid (q = decide (∃ i', i' < k ∧ el S i' = x)) ∧ Dr w6 u) (fun _ j _ => n1 - (intOf j).toNat)
        case atStart => exact ⟨0, false, by omega, rfl, rfl, (show Hid _ by show false = _; simp), Dr.refl _⟩
        case round =>
          obtain ⟨k, q, hk, rfl, rfl, HQ, hd⟩ := hrel
          by_cases hkn : k < n1
          · have hkn2 : (k : Int) < (n1 : Int) := by omega
            obtain ⟨B1, o1, rfl, hB1, hc1⟩ := s6.at (by omega)
            obtain ⟨y1, y2, y3⟩ := hc1 k hkn
            replace y1 := cell_gr y1 hd.gr
            replace y2 := cell_gr y2 hd.gr
            replace y3 := cell_gr y3 hd.gr
            have z1 := cell_gr x1 hd.gr
            have z2 := cell_gr x2 hd.gr
            have z3 := cell_gr x3' hd.gr
            obtain ⟨y, hy⟩ : ∃ y : Sd, y = el S k := ⟨_, rfl⟩
            rw [← hy] at y1 y2 y3
            have HY := hide hy
            clear hy hc1
            cases q with
            | true =>
              go_wp2_with fail
              go_quiet (fail)
              go_wp2
              go_roundw
              case rel => exact ⟨k + 1, true, hkn, by go_num, rfl, any_next HQ.out HY.out (by simp), hd.trans ⟨_, rfl⟩⟩
              case measure => simp [intOf]; omega
            | false =>
              have en : ∀ w, Sem.run Try.prog (binOp .eql 38 (.agg #[.int .i64 y.1, .int .i64 y.2.1, .int .i64 y.2.2]) (.agg #[.int .i64 x.1, .int .i64 x.2.1, .int .i64 x.2.2])) w = .ok (.bool (decide (y = x))) w := eql_seed y x
              generalize hr : decide (y = x) = r at en
              have HR := hide hr
              clear hr
              go_wp2_with fail
              go_quiet (fail)
              go_wp2
              go_roundw
              case rel => exact ⟨k + 1, r, hkn, by go_num, rfl, any_next HQ.out HY.out (by rw [← HR.out]; simp), hd.trans ⟨_, rfl⟩⟩
              case measure => simp [intOf]; omega
          · have : k = n1 := by omega
            subst this
            have hxS : x ∈ S := (HME.out x).1 (by rw [HX.out]; exact el_mem (by rw [HXL.out]; exact hsn))
            obtain rfl : q = true := any_all HQ.out HL.out hxS
            by_cases h0 : 0 < s
            · have h0i : (0 : Int) < (s : Int) := by omega
              have hs1 : 1 ≤ s := h0
              have hsm : ((s - 1 : Nat) : Int) < (m2 : Int) := by omega
              have hwr : IntKind.i64.wrap ((s : Int) - 1) = ((s - 1 : Nat) : Int) := by rw [wrapI (by omega)]; omega
              obtain ⟨p1, p2, p3⟩ := HC.out (s - 1) (by omega)
              replace p1 := cell_gr p1 hd.gr
              replace p2 := cell_gr p2 hd.gr
              replace p3 := cell_gr p3 hd.gr
              have z1 := cell_gr x1 hd.gr
              have z2 := cell_gr x2 hd.gr
              have z3 := cell_gr x3' hd.gr
              have hup := rise_el HR.out (i := s - 1) (by rw [HXL.out]; omega)
              rw [show s - 1 + 1 = s by omega, ← HX.out] at hup
              obtain ⟨p, hp⟩ : ∃ p : Sd, p = el X (s - 1) := ⟨_, rfl⟩
              rw [← hp] at p1 p2 p3 hup
              have hk : ¬ x.2.2 < p.2.2 := by
                rw [ltS_iff] at hup
                omega
              have hne : p ≠ x := by
                rintro rfl
                rw [ltS_irr] at hup
                cases hup
              have en : ∀ w, Sem.run Try.prog (binOp .eql 38 (.agg #[.int .i64 p.1, .int .i64 p.2.1, .int .i64 p.2.2]) (.agg #[.int .i64 x.1, .int .i64 x.2.1, .int .i64 x.2.2])) w = .ok (.bool false) w := fun w => by
                have := eql_seed p x w
                rw [decide_eq_false hne] at this
                exact this
              clear hne hup hp
              go_wp2_with fail
              go_quiet (fail)
              go_wp2
              go_roundw
              case rel => exact ⟨s + 1, hsn, by go_num, (hd0.trans hd).trans ⟨_, rfl⟩⟩
              case measure => simp [intOf]; omega
            · have h0i : ¬ (0 : Int) < (s : Int) := by omega
              go_wp2_with fail
              go_quiet (fail)
              go_wp2
              go_roundw
              case rel => exact ⟨s + 1, hsn, by go_num, (hd0.trans hd).trans ⟨_, rfl⟩⟩
              case measure => simp [intOf]; omega
      · have : s = m2 := by omega
        subst this
        have y6 := y4.gr hd0.gr
        have hgr6 := hgr.trans hd0.gr
        clear s3 x3 y4 hgr hd0 hsn hs
        go_wp2_with fail
        go_loopw [12] (fun i u => ∃ (v : Nat), v ≤ n1 ∧ i = .int .i64 v ∧ Dr w6 u) (fun i _ => n1 - (intOf i).toNat)
        case atStart => exact ⟨0, by omega, rfl, Dr.refl _⟩
        case round =>
          obtain ⟨v, hv, rfl, hd0⟩ := hrel
          generalize wr = w7 at *
          have s7 := s6.gr hd0.gr
          have x7 := x6.gr hd0.gr
          by_cases hvn : v < n1
          · have hvn2 : (v : Int) < (n1 : Int) := by omega
            obtain ⟨B, o, rfl, hB, hc⟩ := s7.at (by omega)
            obtain ⟨x1, x2, x3'⟩ := hc v hvn
            obtain ⟨x, hx⟩ : ∃ x : Sd, x = el S v := ⟨_, rfl⟩
            rw [← hx] at x1 x2 x3'
            have HX := hide hx
            clear hc hx
            go_wp2_with fail
            go_loopw [13, 14] (fun b j u => ∃ (k : Nat) (q : Bool), k ≤ s ∧ j = .int .i64 k ∧ b = .bool q ∧ Hid (q = decide (∃ i', i' < k ∧ el X i' = x)) ∧ Dr w7 u) (fun _ j _ => s - (intOf j).toNat)
            case atStart => exact ⟨0, false, by omega, rfl, rfl, (show Hid _ by show false = _; simp), Dr.refl _⟩
            case round =>
              obtain ⟨k, q, hk, rfl, rfl, HQ, hd⟩ := hrel
              by_cases hkn : k < s
              · have hkn2 : (k : Int) < (s : Int) := by omega
                obtain ⟨B1, o1, rfl, hB1, hc1⟩ := x7.at (by omega)
                obtain ⟨y1, y2, y3⟩ := hc1 k hkn
                replace y1 := cell_gr y1 hd.gr
                replace y2 := cell_gr y2 hd.gr
                replace y3 := cell_gr y3 hd.gr
                have z1 := cell_gr x1 hd.gr
                have z2 := cell_gr x2 hd.gr
                have z3 := cell_gr x3' hd.gr
                obtain ⟨y, hy⟩ : ∃ y : Sd, y = el X k := ⟨_, rfl⟩
                rw [← hy] at y1 y2 y3
                have HY := hide hy
                clear hy hc1
                cases q with
                | true =>
                  go_wp2_with fail
                  go_quiet (fail)
                  go_wp2
                  go_roundw
                  case rel => exact ⟨k + 1, true, hkn, by go_num, rfl, any_next HQ.out HY.out (by simp), hd.trans ⟨_, rfl⟩⟩
                  case measure => simp [intOf]; omega
                | false =>
                  have en : ∀ w, Sem.run Try.prog (binOp .eql 38 (.agg #[.int .i64 x.1, .int .i64 x.2.1, .int .i64 x.2.2]) (.agg #[.int .i64 y.1, .int .i64 y.2.1, .int .i64 y.2.2])) w = .ok (.bool (decide (y = x))) w := fun w => by rw [decide_eq_decide.2 (eq_comm (a := y) (b := x))]; exact eql_seed x y w
                  generalize hr : decide (y = x) = r at en
                  have HR := hide hr
                  clear hr
                  go_wp2_with fail
                  go_quiet (fail)
                  go_wp2
                  go_roundw
                  case rel => exact ⟨k + 1, r, hkn, by go_num, rfl, any_next HQ.out HY.out (by rw [← HR.out]; simp), hd.trans ⟨_, rfl⟩⟩
                  case measure => simp [intOf]; omega
              · have hks : k = s := by omega
                subst hks
                have hxX : x ∈ X := (HME.out x).2 (by rw [HX.out]; exact el_mem (by rw [HL.out]; exact hvn))
                obtain rfl : q = true := any_all HQ.out HXL.out hxX
                go_wp2_with fail
                go_roundw
                case rel => exact ⟨v + 1, hvn, by go_num, hd0.trans hd⟩
                case measure => simp [intOf]; omega
          · have : v = n1 := by omega
            subst this
            have y7 := y6.gr hd0.gr
            have hgr7 := hgr6.trans hd0.gr
            clear s6 x6 y6 hgr6 hd0 hvn hv
            go_wp2_with fail
            refine (told8_any _).mono ?_
            rintro e u1 ⟨rfl, hg1⟩
            replace x7 := x7.gr hg1
            replace y7 := y7.gr hg1
            replace hgr7 := hgr7.trans hg1
            clear hg1
            go_wp2_with fail
            refine (same_any _ _ _ X _ _ _ X _ x7 y7).mono ?_
            rintro e u2 ⟨rfl, hg2⟩
            rw [decide_eq_true (show X = X from rfl)]
            replace x7 := x7.gr hg2
            replace hgr7 := hgr7.trans hg2
            clear hg2 y7
            go_wp2_with fail
            refine (sort_any _ _ _ X _ x7 HPL.out (by omega)).mono ?_
            rintro e u3 ⟨⟨a9, c9, m9, hm9, rfl, hown9⟩, hg3⟩
            rw [srt_of_rise HR.out (fun _ => Iff.rfl)] at hm9 hown9
            have s9 := sls_own hown9 hm9.symm
            clear hm9 hown9
            replace x7 := x7.gr hg3
            replace hgr7 := hgr7.trans hg3
            clear hg3
            go_wp2_with fail
            refine (same_any _ _ _ X _ _ _ X _ s9 x7).mono ?_
            rintro e u4 ⟨rfl, hg4⟩
            rw [decide_eq_true (show X = X from rfl)]
            replace hgr7 := hgr7.trans hg4
            go_wp2_with fail
            go_ret
            exact ⟨rfl, hgr7⟩

end Go.Proofs.Ytobankjdgdjehaa
