/- Whether two lists of seeds are the same: the program's and the document's; at most 60 of a list, a copy. No condition. -/
import Derived.Test.YtobankjdgdjehaaSBest8
namespace Go.Proofs.Ytobankjdgdjehaa
open Go.RowKit
set_option maxRecDepth 20000

theorem neq_seed (x y : Sd) (w : World) : Sem.run Try.prog (binOp .neq 38 (.agg (encS x).toArray) (.agg (encS y).toArray)) w = .ok (.bool (!decide (x = y))) w := by
  have u3 := Try.underlying3
  have a3 := Try.isAgg3
  have z3 := Try.sizeOf3
  have hS : Try.prog.underlying 38 = some (.struct (Try.prog.fieldsOf 38)) := by kernel_rfl
  have hp : Try.prog.stoodInHeld 38 = false := by kernel_rfl
  obtain ⟨a, b, c⟩ := x
  obtain ⟨d, e, f⟩ := y
  simp only [encS]
  rw [run_neq_struct, show (10000 : Nat) = 9999 + 1 from rfl, run_equalIn_agg w 9999 38 _ _ hS hp]
  simp only [Program.fieldsOf, Try.underlying38]
  go_simp
  by_cases h1 : a = d <;> by_cases h2 : b = e <;> by_cases h3 : c = f <;> simp [h1, h2, h3]
theorem el_ext {L M : List Sd} {n : Nat} (h : L.length = n) (g : M.length = n) (e : ∀ j, j < n → el L j = el M j) : L = M := by
  apply List.ext_getElem (by rw [h, g])
  intro i h1 h2
  rw [el_getElem h1, el_getElem h2]
  exact e i (by omega)

set_option maxHeartbeats 2000000 in
theorem rsame_any (a : Option Addr) (n c : Nat) (L : List Sd) (b : Option Addr) (m d : Nat) (M : List Sd) (w : World) (h : SlS w a n c L) (g : SlS w b m d M) :
    Calls Try.prog 18 #[.slice a n c, .slice b m d] w fun e w' => e = .returned (.bool (decide (L = M))) ∧ Gr w w' := by
  have hm := h.len.2.2
  have hm' := h.len.2.1
  have gm := g.len.2.2
  have gm' := g.len.2.1
  unfold maxLen at hm gm
  have H := hide h
  have G := hide g
  have HL := hide h.len.1
  have GL := hide g.len.1
  clear h g
  generalize hR : decide (L = M) = R
  have HR := hide hR
  clear hR
  by_cases hnm : n = m
  · subst hnm
    go_enter Try.func18, Try.ntmps18
    go_wp2_with fail
    go_loopw [5] (fun i u => ∃ (s : Nat), s ≤ n ∧ i = .int .i64 s ∧ (∀ j, j < s → el L j = el M j) ∧ Dr w u) (fun i _ => n - (intOf i).toNat)
    case atStart => exact ⟨0, by omega, rfl, fun j hj => absurd hj (Nat.not_lt_zero _), Dr.refl _⟩
    case round =>
      obtain ⟨s, hs, rfl, he, hd⟩ := hrel
      have HE := hide he
      clear he
      by_cases hsn : s < n
      · have hsn2 : (s : Int) < (n : Int) := by omega
        obtain ⟨B, o, rfl, hB, hc⟩ := H.out.at (by omega)
        obtain ⟨B2, o2, rfl, hB2, hc2⟩ := G.out.at (by omega)
        obtain ⟨c1, c2, c3⟩ := hc s hsn
        obtain ⟨d1, d2, d3⟩ := hc2 s hsn
        replace c1 := cell_gr c1 hd.gr
        replace c2 := cell_gr c2 hd.gr
        replace c3 := cell_gr c3 hd.gr
        replace d1 := cell_gr d1 hd.gr
        replace d2 := cell_gr d2 hd.gr
        replace d3 := cell_gr d3 hd.gr
        clear hc hc2
        obtain ⟨p, hp⟩ : ∃ p : Sd, p = el L s := ⟨_, rfl⟩
        obtain ⟨q, hq⟩ : ∃ q : Sd, q = el M s := ⟨_, rfl⟩
        rw [← hp] at c1 c2 c3
        rw [← hq] at d1 d2 d3
        have HP := hide hp
        have HQ := hide hq
        clear hp hq
        by_cases e : p = q
        · have en : ∀ w, Sem.run Try.prog (binOp .neq 38 (.agg #[.int .i64 p.1, .int .i64 p.2.1, .int .i64 p.2.2]) (.agg #[.int .i64 q.1, .int .i64 q.2.1, .int .i64 q.2.2])) w = .ok (.bool false) w := fun w => by
            have := neq_seed p q w
            rw [decide_eq_true e] at this
            exact this
          have HE2 := hide e
          clear e
          go_wp2_with fail
          go_quiet (fail)
          go_wp2
          go_roundw
          case rel =>
            refine ⟨s + 1, hsn, by go_num, fun j hj => ?_, by repeat (first | exact Dr.refl _ | assumption | refine Dr.add ?_ | refine Dr.trans ?_ (by assumption))⟩
            rcases (by omega : j < s ∨ j = s) with k | rfl
            · exact HE.out j k
            · rw [← HP.out, ← HQ.out]; exact HE2.out
          case measure => simp [intOf]; omega
        · have en : ∀ w, Sem.run Try.prog (binOp .neq 38 (.agg #[.int .i64 p.1, .int .i64 p.2.1, .int .i64 p.2.2]) (.agg #[.int .i64 q.1, .int .i64 q.2.1, .int .i64 q.2.2])) w = .ok (.bool true) w := fun w => by
            have := neq_seed p q w
            rw [decide_eq_false e] at this
            exact this
          have HE2 := hide e
          clear e
          obtain rfl : R = false := HR.out.symm.trans (decide_eq_false (fun k => HE2.out (by rw [HP.out, HQ.out, k])))
          go_wp2_with fail
          go_quiet (fail)
          go_wp2
          go_ret
          exact ⟨rfl, Dr.gr (by repeat (first | exact Dr.refl _ | assumption | refine Dr.add ?_ | refine Dr.trans ?_ (by assumption)))⟩
      · have : s = n := by omega
        subst this
        obtain rfl : R = true := HR.out.symm.trans (decide_eq_true (el_ext HL.out GL.out HE.out))
        go_wp2
        go_ret
        exact ⟨rfl, hd.gr⟩
  · obtain rfl : R = false := HR.out.symm.trans (decide_eq_false (fun k => hnm (by rw [← HL.out, ← GL.out, k])))
    have e : ((n : Int) != (m : Int)) = true := by simp; omega
    clear hnm
    go_enter Try.func18, Try.ntmps18
    go_wp2
    go_ret
    exact ⟨rfl, Gr.refl _⟩

set_option maxHeartbeats 2000000 in
theorem equal_any (a : Option Addr) (n c : Nat) (L : List Sd) (b : Option Addr) (m d : Nat) (M : List Sd) (w : World) (h : SlS w a n c L) (g : SlS w b m d M) :
    Calls Try.prog 35 #[.slice a n c, .slice b m d] w fun e w' => e = .returned (.bool (decide (L = M))) ∧ Gr w w' := by
  have hm := h.len.2.2
  have hm' := h.len.2.1
  have gm := g.len.2.2
  have gm' := g.len.2.1
  unfold maxLen at hm gm
  have H := hide h
  have G := hide g
  have HL := hide h.len.1
  have GL := hide g.len.1
  clear h g
  generalize hR : decide (L = M) = R
  have HR := hide hR
  clear hR
  by_cases hnm : n = m
  · subst hnm
    go_enter Try.func35, Try.ntmps35
    go_wp2_with fail
    go_loopw [13] (fun i u => ∃ (s : Nat), s ≤ n ∧ i = .int .i64 s ∧ (∀ j, j < s → el L j = el M j) ∧ Dr w u) (fun i _ => n - (intOf i).toNat)
    case atStart => exact ⟨0, by omega, rfl, fun j hj => absurd hj (Nat.not_lt_zero _), Dr.refl _⟩
    case round =>
      obtain ⟨s, hs, rfl, he, hd⟩ := hrel
      have HE := hide he
      clear he
      by_cases hsn : s < n
      · have hsn2 : (s : Int) < (n : Int) := by omega
        obtain ⟨B, o, rfl, hB, hc⟩ := H.out.at (by omega)
        obtain ⟨B2, o2, rfl, hB2, hc2⟩ := G.out.at (by omega)
        obtain ⟨c1, c2, c3⟩ := hc s hsn
        obtain ⟨d1, d2, d3⟩ := hc2 s hsn
        replace c1 := cell_gr c1 hd.gr
        replace c2 := cell_gr c2 hd.gr
        replace c3 := cell_gr c3 hd.gr
        replace d1 := cell_gr d1 hd.gr
        replace d2 := cell_gr d2 hd.gr
        replace d3 := cell_gr d3 hd.gr
        clear hc hc2
        obtain ⟨p, hp⟩ : ∃ p : Sd, p = el L s := ⟨_, rfl⟩
        obtain ⟨q, hq⟩ : ∃ q : Sd, q = el M s := ⟨_, rfl⟩
        rw [← hp] at c1 c2 c3
        rw [← hq] at d1 d2 d3
        have HP := hide hp
        have HQ := hide hq
        clear hp hq
        by_cases e : p = q
        · have en : ∀ w, Sem.run Try.prog (binOp .neq 38 (.agg #[.int .i64 p.1, .int .i64 p.2.1, .int .i64 p.2.2]) (.agg #[.int .i64 q.1, .int .i64 q.2.1, .int .i64 q.2.2])) w = .ok (.bool false) w := fun w => by
            have := neq_seed p q w
            rw [decide_eq_true e] at this
            exact this
          have HE2 := hide e
          clear e
          go_wp2_with fail
          go_quiet (fail)
          go_wp2
          go_roundw
          case rel =>
            refine ⟨s + 1, hsn, by go_num, fun j hj => ?_, by repeat (first | exact Dr.refl _ | assumption | refine Dr.add ?_ | refine Dr.trans ?_ (by assumption))⟩
            rcases (by omega : j < s ∨ j = s) with k | rfl
            · exact HE.out j k
            · rw [← HP.out, ← HQ.out]; exact HE2.out
          case measure => simp [intOf]; omega
        · have en : ∀ w, Sem.run Try.prog (binOp .neq 38 (.agg #[.int .i64 p.1, .int .i64 p.2.1, .int .i64 p.2.2]) (.agg #[.int .i64 q.1, .int .i64 q.2.1, .int .i64 q.2.2])) w = .ok (.bool true) w := fun w => by
            have := neq_seed p q w
            rw [decide_eq_false e] at this
            exact this
          have HE2 := hide e
          clear e
          obtain rfl : R = false := HR.out.symm.trans (decide_eq_false (fun k => HE2.out (by rw [HP.out, HQ.out, k])))
          go_wp2_with fail
          go_quiet (fail)
          go_wp2
          go_ret
          exact ⟨rfl, Dr.gr (by repeat (first | exact Dr.refl _ | assumption | refine Dr.add ?_ | refine Dr.trans ?_ (by assumption)))⟩
      · have : s = n := by omega
        subst this
        obtain rfl : R = true := HR.out.symm.trans (decide_eq_true (el_ext HL.out GL.out HE.out))
        go_wp2
        go_ret
        exact ⟨rfl, hd.gr⟩
  · obtain rfl : R = false := HR.out.symm.trans (decide_eq_false (fun k => hnm (by rw [← HL.out, ← GL.out, k])))
    have e : ((n : Int) != (m : Int)) = true := by simp; omega
    clear hnm
    go_enter Try.func35, Try.ntmps35
    go_wp2
    go_ret
    exact ⟨rfl, Gr.refl _⟩

set_option maxHeartbeats 1000000 in
theorem same_any (a : Option Addr) (n c : Nat) (L : List Sd) (b : Option Addr) (m d : Nat) (M : List Sd) (w : World) (h : SlS w a n c L) (g : SlS w b m d M) :
    Calls Try.prog 21 #[.slice a n c, .slice b m d] w fun e w' => e = .returned (.bool (decide (L = M))) ∧ Gr w w' := by
  have HC := fun u (k : Gr w u) => hide (equal_any a n c L b m d M u (h.gr k) (g.gr k))
  clear h g
  generalize decide (L = M) = r at *
  go_enter Try.func21, Try.ntmps21
  go_wp2_with (go_at_call 35; refine (HC _ (Gr.refl _)).out.mono ?_; rintro e w1 ⟨rfl, hg⟩)
  go_ret
  exact ⟨rfl, hg⟩
set_option maxHeartbeats 1000000 in
theorem few_any (a : Option Addr) (n c : Nat) (L : List Sd) (w : World) (h : SlS w a n c L) :
    Calls Try.prog 10 #[.slice a n c] w fun e w' => (∃ a' c' m, m = min n 60 ∧ e = .returned (.slice a' m c') ∧ w'.ownsRow w.heap.size 38 3 (.slice a' m c') m (flatS (L.take 60))) ∧ Gr w w' := by
  have hb := h.len.2.1
  have hm := h.len.2.2
  unfold maxLen at hm
  have HL := hide h.len.1
  obtain ⟨m, hmm⟩ : ∃ m, m = min n 60 := ⟨_, rfl⟩
  have hmn : m ≤ n := by omega
  have hm60 : m ≤ 60 := by omega
  have e1 : min (n : Int) 60 = (m : Int) := by omega
  have hmi : (0 : Int) ≤ (m : Int) ∧ (m : Int) ≤ (c : Int) := by omega
  have et : L.take m = L.take 60 := by
    rcases Nat.lt_or_ge n 60 with k | k
    · rw [List.take_of_length_le (by rw [HL.out]; omega), List.take_of_length_le (by rw [HL.out]; omega)]
    · rw [show m = 60 by omega]
  have HT := hide (et ▸ h.take hmn)
  have HM := hide hmm
  clear h et hmm
  go_enter Try.func10, Try.ntmps10
  have h0m : 0 + m = m := Nat.zero_add m
  go_wp2_with (at_builtin; refine wpList_seeds rfl (.tmp 3) (.tmp 8) rfl w.heap.size _ 0 [] rfl (seeds_empty w) a m c (L.take 60) rfl (HT.out.gr ((Gr.refl w).alloc _)) (by omega) h0m (by simp) ?_; intro a' c' w1 hown hgr)
  go_ret
  exact ⟨⟨a', c', m, HM.out, rfl, by simpa using hown⟩, ((Gr.refl w).alloc _).grown hgr (fun k e => by cases e; exact Nat.le_refl _)⟩

end Go.Proofs.Ytobankjdgdjehaa
