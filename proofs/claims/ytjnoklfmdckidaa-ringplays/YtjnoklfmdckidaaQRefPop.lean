/- What Pop, of the document's ring in memory, does: the first of the least key goes. No condition. -/
import Derived.Test.YtjnoklfmdckidaaQRef
import Derived.Deep.QuietTactic
namespace Go.Proofs.Ytjnoklfmdckidaa
open Go.RowKit
set_option maxRecDepth 20000

def kF (L : List (Int × Int)) (j : Nat) : Int := (L.getD j (0, 0)).1
def xF (L : List (Int × Int)) (j : Nat) : Int := (L.getD j (0, 0)).2
theorem kx_get (L : List (Int × Int)) {j : Nat} (h : j < L.length) : L[j]? = some (kF L j, xF L j) := by
  unfold kF xF
  rw [List.getD_eq_getElem?_getD, List.getElem?_eq_getElem h]
  rfl
theorem kx_first {L : List (Int × Int)} {A : Nat} (hA : A < L.length) (h1 : ∀ j, j < L.length → kF L A ≤ kF L j) (h2 : ∀ j, j < A → kF L A < kF L j) : FirstMin L A (kF L A) (xF L A) := by
  refine ⟨kx_get L hA, fun e he => ?_, fun j e hj he => ?_⟩
  · obtain ⟨j, hj⟩ := List.mem_iff_getElem?.1 he
    have hl := (List.getElem?_eq_some_iff.1 hj).1
    rw [kx_get L hl] at hj
    cases hj
    exact h1 j hl
  · have hl := (List.getElem?_eq_some_iff.1 he).1
    rw [kx_get L hl] at he
    cases he
    exact h2 j hj
theorem It.cells {w : World} {al : Option Addr} {n c : Nat} {L : List (Int × Int)} {g : Option Nat} (h : It w (.slice al n c) L g) (hn : 0 < n) :
    ∃ b o, al = some ⟨b, o, none⟩ ∧ g = some b ∧ n ≤ c ∧ n = L.length ∧ ∀ j, j < n → w.cell? ⟨b, o + j * 2, none⟩ = some (.int .i64 (kF L j)) ∧ w.cell? ⟨b, o + j * 2 + 1, none⟩ = some (.int .i64 (xF L j)) := by
  rcases h with ⟨e, _, _⟩ | ⟨b, o, c', hg, e, hb, hc, hcell⟩
  · simp only [Value.slice.injEq] at e
    omega
  · simp only [Value.slice.injEq] at e
    obtain ⟨rfl, rfl, rfl⟩ := e
    refine ⟨b, o, rfl, hg, hc, rfl, fun j hj => ?_⟩
    obtain ⟨f1, f2⟩ := flat_get L j _ (kx_get L hj)
    exact ⟨hcell _ _ f1, by rw [Nat.add_assoc]; exact hcell _ _ f2⟩
/-- the items ahead of m, and those behind it, as slices of the same array -/
theorem It.head {w : World} {b o n c : Nat} {L : List (Int × Int)} {g : Option Nat} (h : It w (.slice (some ⟨b, o, none⟩) n c) L g) {m : Nat} (hm : m ≤ n) : It w (.slice (some ⟨b, o, none⟩) m c) (L.take m) g := by
  rcases h with ⟨e, _, _⟩ | ⟨b', o', c', hg, e, hb, hc, hcell⟩
  · simp only [Value.slice.injEq] at e
    exact absurd e.1 (by simp)
  · simp only [Value.slice.injEq, Option.some.injEq, Addr.mk.injEq] at e
    obtain ⟨⟨rfl, rfl, _⟩, rfl, rfl⟩ := e
    have hl : (L.take m).length = m := by rw [List.length_take]; omega
    refine .inr ⟨b, o, c, hg, by rw [hl], hb, by rw [hl]; omega, fun j u hu => hcell j u ?_⟩
    have e2 : flat L = flat (L.take m) ++ flat (L.drop m) := by rw [← flat_app, List.take_append_drop]
    rw [e2, List.getElem?_append_left (List.getElem?_eq_some_iff.1 hu).1]
    exact hu
theorem It.tail {w : World} {b o n c : Nat} {L : List (Int × Int)} {g : Option Nat} (h : It w (.slice (some ⟨b, o, none⟩) n c) L g) {m : Nat} (hm : m ≤ n) : It w (.slice (some ⟨b, o + m * 2, none⟩) (n - m) (c - m)) (L.drop m) g := by
  rcases h with ⟨e, _, _⟩ | ⟨b', o', c', hg, e, hb, hc, hcell⟩
  · simp only [Value.slice.injEq] at e
    exact absurd e.1 (by simp)
  · simp only [Value.slice.injEq, Option.some.injEq, Addr.mk.injEq] at e
    obtain ⟨⟨rfl, rfl, _⟩, rfl, rfl⟩ := e
    refine .inr ⟨b, o + m * 2, c - m, hg, by rw [List.length_drop], hb, by rw [List.length_drop]; omega, fun j u hu => ?_⟩
    have e2 : flat L = flat (L.take m) ++ flat (L.drop m) := by rw [← flat_app, List.take_append_drop]
    have hl : (flat (L.take m)).length = m * 2 := by rw [flat_len, List.length_take, Nat.min_eq_left hm]
    rw [Nat.add_assoc]
    refine hcell (m * 2 + j) u ?_
    rw [e2, List.getElem?_append_right (by omega), hl, Nat.add_sub_cancel_left]
    exact hu

theorem rpop_no {w : World} {q : Nat} {g : Option Nat} {a : Int} (h : Rf w q g a []) :
    Calls Try.prog 14 #[.pointer (some ⟨q, 0, none⟩)] w fun e w' => e = .returned (.tuple #[.int .i64 0, .int .i64 0, .bool false]) ∧ w' = w := by
  obtain ⟨c0, ⟨al, c, c1, hit⟩, cf⟩ := h.open
  have c1 : w.cell? ⟨q, 1, none⟩ = some (.slice al 0 c) := c1
  clear hit
  go_enter Try.func14, Try.ntmps14
  go_wp2
  go_ret3
  exact ⟨rfl, rfl⟩

theorem own_gr2 {w w' : World} {base : Nat} {e : TypeId} {v : Value} {n : Nat} {xs : List Value} (h : w.ownsRow base e 2 v n xs) (g : Gr w w') : w'.ownsRow base e 2 v n xs := by
  refine ⟨h.1, ?_⟩
  rcases h.2 with h0 | ⟨b, cap, cur, rfl, hb, hg, r⟩
  · exact .inl h0
  · exact .inr ⟨b, cap, cur, rfl, hb, (Below.block g b (Array.getElem?_eq_some_iff.1 hg).1).trans hg, r⟩
set_option maxHeartbeats 4000000 in
theorem rpop_yes {w : World} {q : Nat} {g : Option Nat} {a : Int} {L : List (Int × Int)} (h : Rf w q g a L) {m : Nat} {k x : Int} (hf : FirstMin L m k x) (hL : L.length ≤ 900000) :
    Calls Try.prog 14 #[.pointer (some ⟨q, 0, none⟩)] w fun e w' => e = .returned (.tuple #[.int .i64 k, .int .i64 x, .bool true]) ∧ (∃ g', Rf w' q g' k (L.eraseIdx m) ∧ ∀ b, g' = some b → w.heap.size ≤ b) ∧ Kp (fun b => b = q) w w' := by
  obtain ⟨c0, ⟨al, c, c1, hit⟩, cf⟩ := h.open
  have hq := h.q_lt
  have hm := hf.lt
  obtain ⟨n, hn⟩ : ∃ n, n = L.length := ⟨_, rfl⟩
  rw [← hn] at c1 hit hL hm
  obtain ⟨b, o, rfl, rfl, hnc, -, hcell⟩ := hit.cells (by omega)
  have HF := hide hf
  have HN := hide hn
  have HI := hide hit
  have HC := hide hcell
  have hn0 : ((n : Int) == 0) = false := by rw [beq_eq_false_iff_ne]; omega
  clear hn hf hit hcell
  go_enter Try.func14, Try.ntmps14
  go_wp2_with fail
  go_loopw [5, 6] (fun A i u => ∃ (t s : Nat), (s ≤ n ∧ t < n) ∧ A = .int .i64 t ∧ i = .int .i64 s ∧ (∀ j, j < s → kF L t ≤ kF L j) ∧ (∀ j, j < t → kF L t < kF L j) ∧ Dr w u) (fun _ i _ => n - (intOf i).toNat)
  case atStart => exact ⟨0, 0, ⟨by omega, by omega⟩, rfl, rfl, fun j hj => absurd hj (Nat.not_lt_zero _), fun j hj => absurd hj (Nat.not_lt_zero _), Dr.refl _⟩
  case round =>
    obtain ⟨t, s, ⟨hs, ht⟩, rfl, rfl, h1, h2, hd⟩ := hrel
    have G1 := hide h1
    have G2 := hide h2
    clear h1 h2
    have e1 := cell_gr c1 hd.gr
    by_cases hsn : s < n
    · have hsn2 : (s : Int) < (n : Int) := by omega
      have ht2 : (t : Int) < (n : Int) := by omega
      have a1 := cell_gr (HC.out s hsn).1 hd.gr
      have a2 := cell_gr (HC.out t ht).1 hd.gr
      by_cases hlt : kF L s < kF L t
      · go_wp2_with fail
        go_quiet (fail)
        go_wp2
        go_roundw
        case rel =>
          refine ⟨s, s + 1, ⟨by omega, hsn⟩, rfl, by go_num, ?_, ?_, by repeat (first | exact Dr.refl _ | assumption | refine Dr.add ?_ | refine Dr.trans ?_ (by assumption))⟩
          · intro j hj
            rcases (by omega : j < s ∨ j = s) with c | rfl
            · have := G1.out j c; omega
            · exact Int.le_refl _
          · intro j hj
            have := G1.out j hj
            omega
        case measure => simp [intOf]; omega
      · go_wp2_with fail
        go_quiet (fail)
        go_wp2
        go_roundw
        case rel =>
          refine ⟨t, s + 1, ⟨by omega, ht⟩, rfl, by go_num, ?_, G2.out, by repeat (first | exact Dr.refl _ | assumption | refine Dr.add ?_ | refine Dr.trans ?_ (by assumption))⟩
          intro j hj
          rcases (by omega : j < s ∨ j = s) with c | rfl
          · exact G1.out j c
          · omega
        case measure => simp [intOf]; omega
    · have hsn2 : ¬ (s : Int) < (n : Int) := by omega
      have ht2 : (t : Int) < (n : Int) := by omega
      obtain ⟨et, ek, ex⟩ := (kx_first (by rw [← HN.out]; exact ht) (fun j hj => G1.out j (by rw [← HN.out] at hj; omega)) G2.out).uniq HF.out
      subst et
      have a1 := cell_gr (HC.out t ht).1 hd.gr
      have a2 := cell_gr (HC.out t ht).2 hd.gr
      rw [ek] at a1
      rw [ex] at a2
      clear G1 G2 ek ex
      have hl1 : Hid ((L.take t).length = t) := hide (by rw [List.length_take, ← HN.out]; omega)
      have hl2 : Hid ((L.drop (t + 1)).length = n - (t + 1)) := hide (by rw [List.length_drop, ← HN.out])
      go_wp2_with fail
      have hgU : Gr w (wr.alloc (.cells #[.int .i64 k, .int .i64 x] 48)) := hd.gr.alloc _
      have hrow : (wr.alloc (.cells #[.int .i64 k, .int .i64 x] 48)).rowIs wr.heap.size 48 2 (pr (.int .i64 k) (.int .i64 x)) := World.rowIs_alloc wr #[.int .i64 k, .int .i64 x] _ _ (fun i hi => by have hi : i < 2 := hi; rcases (by omega : i = 0 ∨ i = 1) with rfl | rfl <;> rfl)
      have hne : q ≠ wr.heap.size := Nat.ne_of_lt (Nat.lt_of_lt_of_le hq (Below.size hd.gr))
      obtain ⟨U, hU⟩ : ∃ U, U = wr.alloc (.cells #[.int .i64 k, .int .i64 x] 48) := ⟨_, rfl⟩
      rw [← hU] at hgU hrow ⊢
      generalize wr.heap.size = BX at *
      have HIU := hide (HI.out.gr hgU)
      have HR := hide hrow
      replace e1 := cell_gr c1 hgU
      have ef := fun i => (Gr.frozen hgU q i hq).trans (cf i)
      have hqU := Nat.lt_of_lt_of_le hq (Below.size hgU)
      clear hU a1 a2 hd hsn hsn2 hrow cf c0 c1 hs
      have ht3 : (t : Int) + 1 ≤ (n : Int) := by omega
      have ht4 : (t : Int) ≤ (n : Int) := by omega
      have ht5 : t ≤ c := by omega
      have hw1 : IntKind.i64.wrap ((t : Int) + 1) = (t : Int) + 1 := wrapI (by omega)
      have hw2 : ((t : Int) + 1).toNat = t + 1 := by omega
      have hw3 : 0 ≤ (t : Int) + 1 := by omega
      have hw4 : (t : Int) ≤ (t : Int) + 1 := by omega
      have hw5 : t ≤ t + 1 := by omega
      have ht6 : n ≤ c := hnc
      by_cases hc : c = t + 1
      · have HT : Hid (It U (.slice (some ⟨b, o, none⟩) 0 0) (L.drop (t + 1)) (some b)) := hide (by
          have hnil : L.drop (t + 1) = [] := List.eq_nil_of_length_eq_zero (by have := hl2.out; omega)
          rw [hnil]
          exact .inr ⟨b, o, 0, rfl, rfl, (HR.out.lt |> fun _ => h.g_lt rfl |> fun g => Nat.lt_of_lt_of_le g (Below.size hgU)), Nat.le_refl _, fun j u hu => by simp [flat] at hu⟩)
        subst hc
        go_region_law (first | (refine step_items rfl (.tmp 49) (.tmp 55) rfl U.heap.size (.slice (some ⟨U.heap.size, 0, none⟩) 0 0) 0 [] rfl (own_gr2 (own_empty U) (by repeat (first | exact Gr.refl _ | assumption | exact Dr.gr (by assumption) | refine Gr.alloc ?_ _ | refine Gr.drewN ?_ _ | refine Gr.drew ?_ | refine Gr.trans ?_ (by assumption) | refine Gr.trans ?_ (Dr.gr (by assumption))))) (L.take t) _ ((HIU.out.head (by omega)).gr (by repeat (first | exact Gr.refl _ | assumption | exact Dr.gr (by assumption) | refine Gr.alloc ?_ _ | refine Gr.drewN ?_ _ | refine Gr.drew ?_ | refine Gr.trans ?_ (by assumption) | refine Gr.trans ?_ (Dr.gr (by assumption))))) (by have := hl1.out; omega) (N := t) (by have := hl1.out; omega) (by simp) ?_; intro y1 k1 w1 ho1 hgr1; have hG1 : Gr U w1 := Gr.grown (a := U) (by repeat (first | exact Gr.refl _ | assumption | exact Dr.gr (by assumption) | refine Gr.alloc ?_ _ | refine Gr.drewN ?_ _ | refine Gr.drew ?_ | refine Gr.trans ?_ (by assumption) | refine Gr.trans ?_ (Dr.gr (by assumption)))) hgr1 (fun b e => (by cases e; exact Nat.le_refl _)); have d1 := cell_gr e1 hG1; have df := fun i => (Gr.frozen hG1 q i hqU).trans (ef i); clear hgr1) | (refine step_items rfl (.tmp 56) (.tmp 63) rfl U.heap.size _ t _ rfl ho1 (L.drop (t + 1)) _ (HT.out.gr (by repeat (first | exact Gr.refl _ | assumption | exact Dr.gr (by assumption) | refine Gr.alloc ?_ _ | refine Gr.drewN ?_ _ | refine Gr.drew ?_ | refine Gr.trans ?_ (by assumption) | refine Gr.trans ?_ (Dr.gr (by assumption))))) (by have := hl2.out; omega) (N := n - 1) (by have := hl2.out; omega) (Below.size hG1) ?_; intro y2 k2 w2 ho2 hgr2; have hG2 := Gr.grown hG1 hgr2 (fun b e => (ho1.lt b e).1); have d2 := cell_gr e1 hG2; have dg := fun i => (Gr.frozen hG2 q i hqU).trans (ef i); clear hgr2 ho1))
        all_goals
          have hfl : [] ++ flat (L.take t) ++ flat (L.drop (t + 1)) = flat (L.eraseIdx t) := by rw [List.nil_append, ← flat_app, List.eraseIdx_eq_take_drop_succ]
          rw [hfl] at ho2
          obtain ⟨g', hi', hb'⟩ := It.of_own ho2 (by rw [List.length_eraseIdx, if_pos (by rw [← HN.out]; exact ht), ← HN.out])
          have hb2 : ∀ b, g' = some b → w.heap.size ≤ b := fun b e => Nat.le_trans (Below.size hgU) (hb' b e)
          obtain ⟨r1, r2⟩ := h.lay (hgU.trans hG2) hi' hb2
          have rx := (row_gr HR.out hG2).setOther (a := ⟨q, 1, none⟩) (Ne.symm hne) (.slice y2 (n - 1) k2)
          clear hfl ho2 hi' d1 d2 df dg hG1 hG2 e1 ef
          generalize w2.setCell ⟨q, 1, none⟩ (.slice y2 (n - 1) k2) = V at *
          have x0 : V.cell? ⟨BX, 0, none⟩ = some (.int .i64 k) := rx.cell (i := 0) (by omega)
          have q0 := r1.open.1
          have qf := r1.open.2.2
          go_wp2_with fail
          obtain ⟨r3, r4⟩ := r1.at (Gr.refl V) k
          have rx2 := rx.setOther (a := ⟨q, 0, none⟩) (Ne.symm hne) (.int .i64 k)
          clear x0 q0 qf rx
          generalize V.setCell ⟨q, 0, none⟩ (.int .i64 k) = V2 at *
          have x0 : V2.cell? ⟨BX, 0, none⟩ = some (.int .i64 k) := rx2.cell (i := 0) (by omega)
          have x1 : V2.cell? ⟨BX, 1, none⟩ = some (.int .i64 x) := rx2.cell (i := 1) (by omega)
          go_quiet (fail)
          go_wp2
          go_ret3
          exact ⟨rfl, ⟨g', r3.gr (by repeat (first | exact Gr.refl _ | assumption | exact Dr.gr (by assumption) | refine Gr.alloc ?_ _ | refine Gr.drewN ?_ _ | refine Gr.drew ?_ | refine Gr.trans ?_ (by assumption) | refine Gr.trans ?_ (Dr.gr (by assumption)))), hb2⟩, (r2.trans r4).grb (by repeat (first | exact Gr.refl _ | assumption | exact Dr.gr (by assumption) | refine Gr.alloc ?_ _ | refine Gr.drewN ?_ _ | refine Gr.drew ?_ | refine Gr.trans ?_ (by assumption) | refine Gr.trans ?_ (Dr.gr (by assumption))))⟩
      · have HT := hide (HIU.out.tail (m := t + 1) (by omega))
        go_region_law (first | (refine step_items rfl (.tmp 49) (.tmp 55) rfl U.heap.size (.slice (some ⟨U.heap.size, 0, none⟩) 0 0) 0 [] rfl (own_gr2 (own_empty U) (by repeat (first | exact Gr.refl _ | assumption | exact Dr.gr (by assumption) | refine Gr.alloc ?_ _ | refine Gr.drewN ?_ _ | refine Gr.drew ?_ | refine Gr.trans ?_ (by assumption) | refine Gr.trans ?_ (Dr.gr (by assumption))))) (L.take t) _ ((HIU.out.head (by omega)).gr (by repeat (first | exact Gr.refl _ | assumption | exact Dr.gr (by assumption) | refine Gr.alloc ?_ _ | refine Gr.drewN ?_ _ | refine Gr.drew ?_ | refine Gr.trans ?_ (by assumption) | refine Gr.trans ?_ (Dr.gr (by assumption))))) (by have := hl1.out; omega) (N := t) (by have := hl1.out; omega) (by simp) ?_; intro y1 k1 w1 ho1 hgr1; have hG1 : Gr U w1 := Gr.grown (a := U) (by repeat (first | exact Gr.refl _ | assumption | exact Dr.gr (by assumption) | refine Gr.alloc ?_ _ | refine Gr.drewN ?_ _ | refine Gr.drew ?_ | refine Gr.trans ?_ (by assumption) | refine Gr.trans ?_ (Dr.gr (by assumption)))) hgr1 (fun b e => (by cases e; exact Nat.le_refl _)); have d1 := cell_gr e1 hG1; have df := fun i => (Gr.frozen hG1 q i hqU).trans (ef i); clear hgr1) | (refine step_items rfl (.tmp 56) (.tmp 63) rfl U.heap.size _ t _ rfl ho1 (L.drop (t + 1)) _ (HT.out.gr (by repeat (first | exact Gr.refl _ | assumption | exact Dr.gr (by assumption) | refine Gr.alloc ?_ _ | refine Gr.drewN ?_ _ | refine Gr.drew ?_ | refine Gr.trans ?_ (by assumption) | refine Gr.trans ?_ (Dr.gr (by assumption))))) (by have := hl2.out; omega) (N := n - 1) (by have := hl2.out; omega) (Below.size hG1) ?_; intro y2 k2 w2 ho2 hgr2; have hG2 := Gr.grown hG1 hgr2 (fun b e => (ho1.lt b e).1); have d2 := cell_gr e1 hG2; have dg := fun i => (Gr.frozen hG2 q i hqU).trans (ef i); clear hgr2 ho1))
        all_goals
          have hfl : [] ++ flat (L.take t) ++ flat (L.drop (t + 1)) = flat (L.eraseIdx t) := by rw [List.nil_append, ← flat_app, List.eraseIdx_eq_take_drop_succ]
          rw [hfl] at ho2
          obtain ⟨g', hi', hb'⟩ := It.of_own ho2 (by rw [List.length_eraseIdx, if_pos (by rw [← HN.out]; exact ht), ← HN.out])
          have hb2 : ∀ b, g' = some b → w.heap.size ≤ b := fun b e => Nat.le_trans (Below.size hgU) (hb' b e)
          obtain ⟨r1, r2⟩ := h.lay (hgU.trans hG2) hi' hb2
          have rx := (row_gr HR.out hG2).setOther (a := ⟨q, 1, none⟩) (Ne.symm hne) (.slice y2 (n - 1) k2)
          clear hfl ho2 hi' d1 d2 df dg hG1 hG2 e1 ef
          generalize w2.setCell ⟨q, 1, none⟩ (.slice y2 (n - 1) k2) = V at *
          have x0 : V.cell? ⟨BX, 0, none⟩ = some (.int .i64 k) := rx.cell (i := 0) (by omega)
          have q0 := r1.open.1
          have qf := r1.open.2.2
          go_wp2_with fail
          obtain ⟨r3, r4⟩ := r1.at (Gr.refl V) k
          have rx2 := rx.setOther (a := ⟨q, 0, none⟩) (Ne.symm hne) (.int .i64 k)
          clear x0 q0 qf rx
          generalize V.setCell ⟨q, 0, none⟩ (.int .i64 k) = V2 at *
          have x0 : V2.cell? ⟨BX, 0, none⟩ = some (.int .i64 k) := rx2.cell (i := 0) (by omega)
          have x1 : V2.cell? ⟨BX, 1, none⟩ = some (.int .i64 x) := rx2.cell (i := 1) (by omega)
          go_quiet (fail)
          go_wp2
          go_ret3
          exact ⟨rfl, ⟨g', r3.gr (by repeat (first | exact Gr.refl _ | assumption | exact Dr.gr (by assumption) | refine Gr.alloc ?_ _ | refine Gr.drewN ?_ _ | refine Gr.drew ?_ | refine Gr.trans ?_ (by assumption) | refine Gr.trans ?_ (Dr.gr (by assumption)))), hb2⟩, (r2.trans r4).grb (by repeat (first | exact Gr.refl _ | assumption | exact Dr.gr (by assumption) | refine Gr.alloc ?_ _ | refine Gr.drewN ?_ _ | refine Gr.drew ?_ | refine Gr.trans ?_ (by assumption) | refine Gr.trans ?_ (Dr.gr (by assumption))))⟩
end Go.Proofs.Ytjnoklfmdckidaa
