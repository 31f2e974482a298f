/- WalkAsks' walk: it answers true at every input. No condition. -/
import Derived.Test.YtlnbolaaaahoaaaFRWalk10
import Derived.Test.YtlnbolaaaahoaaaFTold10
import Derived.Deep.RegionHeld3
import Derived.Deep.CutRange
namespace Go.Proofs.Ytlnbolaaaahoaaa
open Go.RowKit
set_option maxRecDepth 20000

theorem row_tri10 {u : World} {p : Nat} {x y z : Value} (h : u.rowIs p 24 3 (tri x y z)) : (u.cell? ⟨p, 0, none⟩ = some x ∧ u.cell? ⟨p, 1, none⟩ = some y ∧ u.cell? ⟨p, 2, none⟩ = some z) ∧ ∀ i, u.frozen? ⟨p, i, none⟩ = false :=
  ⟨⟨h.cell (i := 0) (by omega), h.cell (i := 1) (by omega), h.cell (i := 2) (by omega)⟩, fun i => h.frozen i⟩
theorem step_intsZ {ops : Array Oper} {o : Oper} {a : Act} {w : World} {K : Act → World → Prop} {Q : Exit → Act → World → Prop} {E : Prop} (hg : o.guard = none) (s x : Operand) (ho : o.op = Op.call { callee := Callee.builtin Builtin.append, args := #[s, x], argTypes := #[25, 25] })
    (base : Nat) (v : Value) (n : Nat) (xs : List Value) (hs : a.eval s = v) (hown : w.ownsRow base 3 1 v n xs)
    (al : Option Addr) (m c : Nat) (z : Nat → Int) (hx : a.eval x = .slice al m c) (hit : SlI w al m z) (hnil : al = none → m = 0 ∧ c = 0) (hn : n + m ≤ 1000000) {N : Nat} (hN : n + m = N) (hbase : base ≤ w.heap.size)
    (hK : ∀ a' c' w', w'.ownsRow base 3 1 (.slice a' N c') N (xs ++ cel .i64 m z) → w.grownBy w' v.ownBlock → K (a.put o.dst (.slice a' N c')) w') :
    if Region.wanted o (yielded ops a.tmps) = true then Oper.wp Try.prog o a w K Q else E := by
  have hw : Region.wanted o (yielded ops a.tmps) = true := by simp [Region.wanted, hg]
  rw [if_pos hw]
  subst hN
  obtain ⟨i0, hi, hz0, hz1, hz2⟩ := info_parts info_int
  cases al with
  | none =>
    obtain ⟨rfl, rfl⟩ := hnil rfl
    have hrun := run_append_owned_none (P := Try.prog) (w := w) base 25 o.type 3 i0 1 Try.underlying25 hi v n xs hown
    unfold Oper.wp
    simp [execOp, ho, resolve, invoke, builtin, hs, hx, hrun, Result.andThen]
    obtain ⟨a', c', rfl⟩ := own_sliceI hown
    exact hK a' c' w (by simpa [cel] using hown) ⟨rfl, rfl, rfl, Nat.le_refl _, fun _ _ _ => rfl⟩
  | some y =>
    refine wp_append_own w s x 25 ho base 3 i0 (.int .i64 0) 1 8 Try.underlying25 hi hz0 hz1 hz2 rfl (by decide) v n xs hs hown y m c (cel .i64 m z) hx (by rw [cel_len, Nat.mul_one]) ?_ (cel_one _ _ _) (by unfold maxLen; omega) (by omega) hbase ?_
    · intro j u hu
      have hj : j < m := by have := (List.getElem?_eq_some_iff.1 hu).1; rwa [cel_len] at this
      rw [cel_get _ _ _ hj] at hu
      cases hu
      rcases hit with h4 | ⟨b, off, e, hb, hc⟩
      · omega
      · cases e
        have := hc j hj
        have e : (⟨b, off, none⟩ : Addr).add j = ⟨b, off + j, none⟩ := by unfold Addr.add; split <;> simp_all
        rw [e]
        exact this
    · intro v' w' h2 h3 _
      obtain ⟨a', c', rfl⟩ := own_sliceI h2
      exact hK a' c' w' h2 h3
theorem empty_own {u v : World} {b base : Nat} (e : b = v.heap.size) (hb : base ≤ b) (g : Gr (v.alloc (.cells #[] 3)) u) : u.ownsRow base 3 1 (.slice (some ⟨b, 0, none⟩) 0 0) 0 [] := by
  subst e
  have h : (v.alloc (.cells #[] 3)).ownsRow v.heap.size 3 1 (.slice (some ⟨v.heap.size, 0, none⟩) 0 0) 0 [] :=
    ⟨rfl, .inr ⟨_, 0, #[], rfl, Nat.le_refl _, Go.Deep.blk_alloc_new _ _, Nat.le_refl _, Nat.zero_le _, rfl, rfl⟩⟩
  exact own_gr (own_mono h hb) g

theorem own_ne_box {w : World} {base n bx : Nat} {v : Value} {xs : List Value} {g : Nat → Value} (h : w.ownsRow base 3 1 v n xs) (hb : w.rowIs bx 33 2 g) : v.ownBlock ≠ some bx := by
  obtain ⟨cur, e1, -, -⟩ := hb
  rcases h.2 with ⟨rfl, _⟩ | ⟨p, cap, cur2, rfl, _, e2, _⟩
  · simp [Value.ownBlock]
  · intro e
    simp only [Value.ownBlock, Option.some.injEq] at e
    subst e
    rw [e2] at e1
    simp at e1
/-- the field's box at BF: x, and the numbers z -/
def BoxR (u1 : World) (m : Nat) (z : Nat → Int) (u : World) (BF : Nat) (x : Value) (ae : Option Addr) (ce : Nat) : Prop := u.rowIs BF 33 2 (pairF x (.slice ae m ce)) ∧ u1.heap.size ≤ BF ∧ SlI u ae m z ∧ Gr u1 u
theorem BoxR.alloc {u1 u : World} {m BF ce : Nat} {z : Nat → Int} {x : Value} {ae : Option Addr} (h : BoxR u1 m z u BF x ae ce) (o : Obj) : BoxR u1 m z (u.alloc o) BF x ae ce :=
  ⟨row_gr h.1 ((Gr.refl u).alloc o), h.2.1, h.2.2.1.gr ((Gr.refl u).alloc o), h.2.2.2.alloc o⟩
theorem box_end {u1 v : World} {bx base m c5 : Nat} {a5 : Option Addr} {z : Nat → Int} {g : Nat → Value} (x : Value) (hX : v.rowIs bx 33 2 g) (hown : v.ownsRow base 3 1 (.slice a5 m c5) m (cel .i64 m z)) (hgr : Gr u1 v) (hbx : u1.heap.size ≤ bx) :
    BoxR u1 m z ((v.setCell ⟨bx, 0, none⟩ x).setCell ⟨bx, 1, none⟩ (.slice a5 m c5)) bx x a5 c5 := by
  have hne := own_ne_box hown hX
  refine ⟨World.rowIs.congr ((hX.set 0 _).set 1 _) (fun i hi => by rcases (by omega : i = 0 ∨ i = 1) with rfl | rfl <;> rfl), hbx, ?_, (hgr.set (p := ⟨bx, 0, none⟩) hbx _).set (p := ⟨bx, 1, none⟩) hbx _⟩
  have ho := ownsRow_setCell_other (ownsRow_setCell_other hown (a := ⟨bx, 0, none⟩) hne x) (a := ⟨bx, 1, none⟩) hne (.slice a5 m c5)
  obtain ⟨a', c', e, _, _, hs⟩ := SlI.of_own ho
  cases e
  exact hs
theorem box_new {u1 v : World} {base m c5 bx : Nat} {a5 : Option Addr} {z : Nat → Int} (x : Value) (e : bx = v.heap.size) (hown : v.ownsRow base 3 1 (.slice a5 m c5) m (cel .i64 m z)) (hgr : Gr u1 v) :
    BoxR u1 m z (v.alloc (.cells #[x, .slice a5 m c5] 33)) bx x a5 c5 := by
  subst e
  obtain ⟨a', c', e, _, _, hs⟩ := SlI.of_own hown
  cases e
  exact ⟨pair_alloc v _ _ _, Gr.size hgr, hs.gr ((Gr.refl v).alloc _), hgr.alloc _⟩

theorem two_made {u : World} {BF N : Nat} {x y : Value} {g : Nat → Value} (hb : u.rowIs BF 33 2 g) (hN : N ≤ 4096) :
    ((((u.setCell ⟨BF, 0, none⟩ x).setCell ⟨BF, 1, none⟩ y).alloc (.cells (madeCells #[.int .i64 0] N) 3)).alloc (.cells (madeCells #[.int .i64 0] N) 3)).drew.rowIs BF 33 2 (pairF x y)
    ∧ FarS ((((u.setCell ⟨BF, 0, none⟩ x).setCell ⟨BF, 1, none⟩ y).alloc (.cells (madeCells #[.int .i64 0] N) 3)).alloc (.cells (madeCells #[.int .i64 0] N) 3)).drew u.heap.size N N (fun _ => 0)
    ∧ FarS ((((u.setCell ⟨BF, 0, none⟩ x).setCell ⟨BF, 1, none⟩ y).alloc (.cells (madeCells #[.int .i64 0] N) 3)).alloc (.cells (madeCells #[.int .i64 0] N) 3)).drew (u.heap.size + 1) N N (fun _ => 0)
    ∧ Kp (fun b => b = BF) u ((((u.setCell ⟨BF, 0, none⟩ x).setCell ⟨BF, 1, none⟩ y).alloc (.cells (madeCells #[.int .i64 0] N) 3)).alloc (.cells (madeCells #[.int .i64 0] N) 3)).drew := by
  have hv : ((u.setCell ⟨BF, 0, none⟩ x).setCell ⟨BF, 1, none⟩ y).rowIs BF 33 2 (pairF x y) := World.rowIs.congr ((hb.set 0 _).set 1 _) (fun i hi => by rcases (by omega : i = 0 ∨ i = 1) with rfl | rfl <;> rfl)
  have hk : Kp (fun b => b = BF) u ((u.setCell ⟨BF, 0, none⟩ x).setCell ⟨BF, 1, none⟩ y) := Kp.set (S := fun b => b = BF) (p := ⟨BF, 1, none⟩) (Kp.set (S := fun b => b = BF) (p := ⟨BF, 0, none⟩) (Kp.refl _ u) (.inl rfl) _) (.inl rfl) _
  have hs : ((u.setCell ⟨BF, 0, none⟩ x).setCell ⟨BF, 1, none⟩ y).heap.size = u.heap.size := by simp [World.setCell]
  generalize ((u.setCell ⟨BF, 0, none⟩ x).setCell ⟨BF, 1, none⟩ y) = v at *
  have h1 := far_made v N hN
  have h2 := far_made (v.alloc (.cells (madeCells #[.int .i64 0] N) 3)) N hN
  rw [World.size_alloc, hs] at h2
  rw [hs] at h1
  have g1 : Gr v ((v.alloc (.cells (madeCells #[.int .i64 0] N) 3)).alloc (.cells (madeCells #[.int .i64 0] N) 3)).drew := (((Gr.refl v).alloc _).alloc _).drew
  exact ⟨row_gr hv g1, h1.gr ((Gr.refl _).alloc _).drew, h2.gr (Gr.refl _).drew, hk.grb g1⟩
theorem cell_set_far {w : World} {p i q j : Nat} {v x : Value} (h : w.cell? ⟨p, i, none⟩ = some v) (hq : p ≠ q) : (w.setCell ⟨q, j, none⟩ x).cell? ⟨p, i, none⟩ = some v :=
  Kp.cell (S := fun b => b = q) ((Kp.refl (fun b => b = q) w).set (p := ⟨q, j, none⟩) (.inl rfl) x) h hq

set_option maxHeartbeats 3000000 in
theorem walkAsks_any (W H : Int) (a : Option Addr) (n cap : Nat) (f : Nat → Int) (x y : Int) (ak : Option Addr) (m kc : Nat) (z : Nat → Int) (lo : Int) (raw : Bool) (w : World)
    (h : Sl w a n f) (hn : n ≤ maxLen) (ha : a = none → n = 0 ∧ cap = 0) (hk : SlI w ak m z) (hkm : m ≤ kc ∧ kc ≤ maxLen) (hkn : ak = none → m = 0 ∧ kc = 0) :
    Calls Try.prog 6 #[.agg #[.int .i64 W, .int .i64 H, .slice a n cap], .int .i64 x, .int .i64 y, .slice ak m kc, .int .i64 lo, .bool raw] w fun e w' => e = .returned (.bool true) ∧ Gr w w' := by
  unfold maxLen at hn
  have hkm2 : m ≤ 9223372036854775807 := by
    have := hkm.1; have := hkm.2
    unfold maxLen at this
    omega
  obtain ⟨c1, c2, c3⟩ := tri_at w W H (.slice a n cap)
  have hg1 : Gr w (w.alloc (.cells #[.int .i64 W, .int .i64 H, .slice a n cap] 24)) := (Gr.refl w).alloc _
  go_enter Try.func6, Try.ntmps6
  go_upto_region 1 with fail
  generalize (w.alloc (.cells #[.int .i64 W, .int .i64 H, .slice a n cap] 24)) = w1 at *
  generalize w.heap.size = B0 at *
  have hsl := h.gr hg1
  have hk00 := hk
  replace hk := hk.gr hg1
  clear h
  by_cases h6 : 600 < n
  · have h6i : (600 : Int) < (n : Int) := by omega
    go_wp2_with fail
    refine (told10_any _).mono ?_
    rintro e w2 ⟨rfl, hg2⟩
    go_wp2
    go_ret
    exact ⟨rfl, hg1.trans hg2⟩
  · have h6i : ¬ (600 : Int) < (n : Int) := by omega
    by_cases h40 : 600 < m
    · have h40i : (600 : Int) < (m : Int) := by omega
      go_wp2_with fail
      refine (told10_any _).mono ?_
      rintro e w2 ⟨rfl, hg2⟩
      go_wp2
      go_ret
      exact ⟨rfl, hg1.trans hg2⟩
    · have h40i : ¬ (600 : Int) < (m : Int) := by omega
      go_wp2_with fail
      refine (ownTile_any W H a n cap f w1 hsl (by omega) ha).mono ?_
      rintro e w2 ⟨⟨g1, k1, rfl, hown1⟩, hg2⟩
      obtain ⟨p1, p2, p3, p4, p5⟩ := hown1.sl
      clear hown1 h6i h40i
      replace c1 := cell_gr c1 hg2
      replace c2 := cell_gr c2 hg2
      replace c3 := cell_gr c3 hg2
      replace hsl := hsl.gr hg2
      replace hk := hk.gr hg2
      have hgr := hg1.trans hg2
      have hrow := tri_alloc w2 (.int .i64 W) (.int .i64 H) (.slice (some ⟨g1, 0, none⟩) n k1) 24
      obtain ⟨u1, hu1⟩ : ∃ u1, u1 = w2.alloc (.cells #[.int .i64 W, .int .i64 H, .slice (some ⟨g1, 0, none⟩) n k1] 24) := ⟨_, rfl⟩
      have hgu : Gr w2 u1 := hu1 ▸ (Gr.refl w2).alloc _
      obtain ⟨BX, hBX⟩ : ∃ BX, BX = w2.heap.size := ⟨_, rfl⟩
      rw [← hu1, ← hBX] at hrow
      go_upto_region 4 with fail
      rw [← hu1, ← hBX]
      have HBX := hide hBX
      have HG2 := hide hgr
      have HK0 : Hid (SlI w ak m z) := hide hk00
      clear hu1 hBX
      replace c1 := cell_gr c1 hgu
      replace c2 := cell_gr c2 hgu
      replace c3 := cell_gr c3 hgu
      replace hsl := hsl.gr hgu
      replace hk := hk.gr hgu
      have t1 := p5.gr hgu
      replace hgr := hgr.trans hgu
      have h0m : 0 + m = m := Nat.zero_add m
      have hmk := fun u => make_dirs m (by omega) u
      clear hg1 hg2 p5 p4 p3 hgu
      go_cut [14] from 32 to 38 (fun v u => ∃ (BF : Nat) (ad ae : Option Addr) (cd ce : Nat), v = .pointer (some ⟨BF, 0, none⟩) ∧ BoxR u1 m z u BF (.slice ad m cd) ae ce)
      case first =>
        go_region_law (first | (refine step_intsZ rfl (.tmp 32) (.tmp 33) rfl u1.heap.size (.slice (some ⟨u1.heap.size, 0, none⟩) 0 0) 0 [] rfl (by first | (refine empty_own (v := u1) rfl (by omega) ?_; exact (by (repeat (first | (with_reducible exact Gr.refl _) | (with_reducible assumption) | (with_reducible refine Gr.alloc ?_ _) | (with_reducible refine Gr.drew ?_) | (with_reducible refine Gr.set ?_ (by dsimp only; omega) _) | (with_reducible refine Gr.trans ?_ (by with_reducible assumption)))); first | done | fail))) ak m kc z rfl (hk.gr (by (repeat (first | (with_reducible exact Gr.refl _) | (with_reducible assumption) | (with_reducible refine Gr.alloc ?_ _) | (with_reducible refine Gr.drew ?_) | (with_reducible refine Gr.set ?_ (by dsimp only; omega) _) | (with_reducible refine Gr.trans ?_ (by with_reducible assumption)))); first | done | fail)) hkn (by omega) h0m (Gr.size (a := u1) (by (repeat (first | (with_reducible exact Gr.refl _) | (with_reducible assumption) | (with_reducible refine Gr.alloc ?_ _) | (with_reducible refine Gr.drew ?_) | (with_reducible refine Gr.set ?_ (by dsimp only; omega) _) | (with_reducible refine Gr.trans ?_ (by with_reducible assumption)))); first | done | fail)) ?_; intro a5 c5 w5 hown5 hgrow5; have hg5 : Gr u1 w5 := Gr.grown (by (repeat (first | (with_reducible exact Gr.refl _) | (with_reducible assumption) | (with_reducible refine Gr.alloc ?_ _) | (with_reducible refine Gr.drew ?_) | (with_reducible refine Gr.set ?_ (by dsimp only; omega) _) | (with_reducible refine Gr.trans ?_ (by with_reducible assumption)))); first | done | fail) hgrow5 (by intro q e; simp only [Value.ownBlock, Option.some.injEq] at e; omega); (try (have hbx0 : w5.rowIs (u1.heap.size) 33 2 (pairF (.slice none 0 0) (.slice none 0 0)) := row_grown (row_gr (w := u1.alloc (.cells #[.slice none 0 0, .slice none 0 0] 33)) (by have := pair_alloc u1 (.slice none 0 0) (.slice none 0 0) 33; simpa only [World.size_alloc] using this) (by (repeat (first | (with_reducible exact Gr.refl _) | (with_reducible assumption) | (with_reducible refine Gr.alloc ?_ _) | (with_reducible refine Gr.drew ?_) | (with_reducible refine Gr.set ?_ (by dsimp only; omega) _) | (with_reducible refine Gr.trans ?_ (by with_reducible assumption)))); first | done | fail)) hgrow5 (by intro q e; simp only [Value.ownBlock, Option.some.injEq] at e; omega); obtain ⟨y01, y02, y03, y04⟩ := pair_at hbx0)); (try (have hbx1 : w5.rowIs (u1.heap.size + 1) 33 2 (pairF (.slice none 0 0) (.slice none 0 0)) := row_grown (row_gr (w := (u1.alloc (.cells #[] 3)).alloc (.cells #[.slice none 0 0, .slice none 0 0] 33)) (by have := pair_alloc (u1.alloc (.cells #[] 3)) (.slice none 0 0) (.slice none 0 0) 33; simpa only [World.size_alloc] using this) (by (repeat (first | (with_reducible exact Gr.refl _) | (with_reducible assumption) | (with_reducible refine Gr.alloc ?_ _) | (with_reducible refine Gr.drew ?_) | (with_reducible refine Gr.set ?_ (by dsimp only; omega) _) | (with_reducible refine Gr.trans ?_ (by with_reducible assumption)))); first | done | fail)) hgrow5 (by intro q e; simp only [Value.ownBlock, Option.some.injEq] at e; omega); obtain ⟨y11, y12, y13, y14⟩ := pair_at hbx1)); (try (have hbx2 : w5.rowIs (u1.heap.size + 1) 33 2 (pairF (.slice none 0 0) (.slice none 0 0)) := row_grown (row_gr (w := (u1.alloc (.cells (madeCells #[.int .i64 0] m) 3)).alloc (.cells #[.slice none 0 0, .slice none 0 0] 33)) (by have := pair_alloc (u1.alloc (.cells (madeCells #[.int .i64 0] m) 3)) (.slice none 0 0) (.slice none 0 0) 33; simpa only [World.size_alloc] using this) (by (repeat (first | (with_reducible exact Gr.refl _) | (with_reducible assumption) | (with_reducible refine Gr.alloc ?_ _) | (with_reducible refine Gr.drew ?_) | (with_reducible refine Gr.set ?_ (by dsimp only; omega) _) | (with_reducible refine Gr.trans ?_ (by with_reducible assumption)))); first | done | fail)) hgrow5 (by intro q e; simp only [Value.ownBlock, Option.some.injEq] at e; omega); obtain ⟨y21, y22, y23, y24⟩ := pair_at hbx2)); (try (have hbx3 : w5.rowIs (u1.heap.size + 1 + 1) 33 2 (pairF (.slice none 0 0) (.slice none 0 0)) := row_grown (row_gr (w := ((u1.alloc (.cells #[] 3)).alloc (.cells (madeCells #[.int .i64 0] m) 3)).alloc (.cells #[.slice none 0 0, .slice none 0 0] 33)) (by have := pair_alloc ((u1.alloc (.cells #[] 3)).alloc (.cells (madeCells #[.int .i64 0] m) 3)) (.slice none 0 0) (.slice none 0 0) 33; simpa only [World.size_alloc] using this) (by (repeat (first | (with_reducible exact Gr.refl _) | (with_reducible assumption) | (with_reducible refine Gr.alloc ?_ _) | (with_reducible refine Gr.drew ?_) | (with_reducible refine Gr.set ?_ (by dsimp only; omega) _) | (with_reducible refine Gr.trans ?_ (by with_reducible assumption)))); first | done | fail)) hgrow5 (by intro q e; simp only [Value.ownBlock, Option.some.injEq] at e; omega); obtain ⟨y31, y32, y33, y34⟩ := pair_at hbx3)); (try (have hbx4 : w5.rowIs (u1.heap.size + 1 + 1) 33 2 (pairF (.slice none 0 0) (.slice none 0 0)) := row_grown (row_gr (w := ((u1.alloc (.cells (madeCells #[.int .i64 0] m) 3)).alloc (.cells #[] 3)).alloc (.cells #[.slice none 0 0, .slice none 0 0] 33)) (by have := pair_alloc ((u1.alloc (.cells (madeCells #[.int .i64 0] m) 3)).alloc (.cells #[] 3)) (.slice none 0 0) (.slice none 0 0) 33; simpa only [World.size_alloc] using this) (by (repeat (first | (with_reducible exact Gr.refl _) | (with_reducible assumption) | (with_reducible refine Gr.alloc ?_ _) | (with_reducible refine Gr.drew ?_) | (with_reducible refine Gr.set ?_ (by dsimp only; omega) _) | (with_reducible refine Gr.trans ?_ (by with_reducible assumption)))); first | done | fail)) hgrow5 (by intro q e; simp only [Value.ownBlock, Option.some.injEq] at e; omega); obtain ⟨y41, y42, y43, y44⟩ := pair_at hbx4)); clear hgrow5) | (refine step_intsZ rfl (.tmp 32) (.tmp 33) rfl u1.heap.size (.slice (some ⟨u1.heap.size + 1, 0, none⟩) 0 0) 0 [] rfl (by first | (refine empty_own (v := (u1.alloc (.cells (madeCells #[.int .i64 0] m) 3))) (by simp only [World.size_alloc]) (by omega) ?_; exact (by (repeat (first | (with_reducible exact Gr.refl _) | (with_reducible assumption) | (with_reducible refine Gr.alloc ?_ _) | (with_reducible refine Gr.drew ?_) | (with_reducible refine Gr.set ?_ (by dsimp only; omega) _) | (with_reducible refine Gr.trans ?_ (by with_reducible assumption)))); first | done | fail)) | (refine empty_own (v := (u1.alloc (.cells #[.slice none 0 0, .slice none 0 0] 33))) (by simp only [World.size_alloc]) (by omega) ?_; exact (by (repeat (first | (with_reducible exact Gr.refl _) | (with_reducible assumption) | (with_reducible refine Gr.alloc ?_ _) | (with_reducible refine Gr.drew ?_) | (with_reducible refine Gr.set ?_ (by dsimp only; omega) _) | (with_reducible refine Gr.trans ?_ (by with_reducible assumption)))); first | done | fail))) ak m kc z rfl (hk.gr (by (repeat (first | (with_reducible exact Gr.refl _) | (with_reducible assumption) | (with_reducible refine Gr.alloc ?_ _) | (with_reducible refine Gr.drew ?_) | (with_reducible refine Gr.set ?_ (by dsimp only; omega) _) | (with_reducible refine Gr.trans ?_ (by with_reducible assumption)))); first | done | fail)) hkn (by omega) h0m (Gr.size (a := u1) (by (repeat (first | (with_reducible exact Gr.refl _) | (with_reducible assumption) | (with_reducible refine Gr.alloc ?_ _) | (with_reducible refine Gr.drew ?_) | (with_reducible refine Gr.set ?_ (by dsimp only; omega) _) | (with_reducible refine Gr.trans ?_ (by with_reducible assumption)))); first | done | fail)) ?_; intro a5 c5 w5 hown5 hgrow5; have hg5 : Gr u1 w5 := Gr.grown (by (repeat (first | (with_reducible exact Gr.refl _) | (with_reducible assumption) | (with_reducible refine Gr.alloc ?_ _) | (with_reducible refine Gr.drew ?_) | (with_reducible refine Gr.set ?_ (by dsimp only; omega) _) | (with_reducible refine Gr.trans ?_ (by with_reducible assumption)))); first | done | fail) hgrow5 (by intro q e; simp only [Value.ownBlock, Option.some.injEq] at e; omega); (try (have hbx0 : w5.rowIs (u1.heap.size) 33 2 (pairF (.slice none 0 0) (.slice none 0 0)) := row_grown (row_gr (w := u1.alloc (.cells #[.slice none 0 0, .slice none 0 0] 33)) (by have := pair_alloc u1 (.slice none 0 0) (.slice none 0 0) 33; simpa only [World.size_alloc] using this) (by (repeat (first | (with_reducible exact Gr.refl _) | (with_reducible assumption) | (with_reducible refine Gr.alloc ?_ _) | (with_reducible refine Gr.drew ?_) | (with_reducible refine Gr.set ?_ (by dsimp only; omega) _) | (with_reducible refine Gr.trans ?_ (by with_reducible assumption)))); first | done | fail)) hgrow5 (by intro q e; simp only [Value.ownBlock, Option.some.injEq] at e; omega); obtain ⟨y01, y02, y03, y04⟩ := pair_at hbx0)); (try (have hbx1 : w5.rowIs (u1.heap.size + 1) 33 2 (pairF (.slice none 0 0) (.slice none 0 0)) := row_grown (row_gr (w := (u1.alloc (.cells #[] 3)).alloc (.cells #[.slice none 0 0, .slice none 0 0] 33)) (by have := pair_alloc (u1.alloc (.cells #[] 3)) (.slice none 0 0) (.slice none 0 0) 33; simpa only [World.size_alloc] using this) (by (repeat (first | (with_reducible exact Gr.refl _) | (with_reducible assumption) | (with_reducible refine Gr.alloc ?_ _) | (with_reducible refine Gr.drew ?_) | (with_reducible refine Gr.set ?_ (by dsimp only; omega) _) | (with_reducible refine Gr.trans ?_ (by with_reducible assumption)))); first | done | fail)) hgrow5 (by intro q e; simp only [Value.ownBlock, Option.some.injEq] at e; omega); obtain ⟨y11, y12, y13, y14⟩ := pair_at hbx1)); (try (have hbx2 : w5.rowIs (u1.heap.size + 1) 33 2 (pairF (.slice none 0 0) (.slice none 0 0)) := row_grown (row_gr (w := (u1.alloc (.cells (madeCells #[.int .i64 0] m) 3)).alloc (.cells #[.slice none 0 0, .slice none 0 0] 33)) (by have := pair_alloc (u1.alloc (.cells (madeCells #[.int .i64 0] m) 3)) (.slice none 0 0) (.slice none 0 0) 33; simpa only [World.size_alloc] using this) (by (repeat (first | (with_reducible exact Gr.refl _) | (with_reducible assumption) | (with_reducible refine Gr.alloc ?_ _) | (with_reducible refine Gr.drew ?_) | (with_reducible refine Gr.set ?_ (by dsimp only; omega) _) | (with_reducible refine Gr.trans ?_ (by with_reducible assumption)))); first | done | fail)) hgrow5 (by intro q e; simp only [Value.ownBlock, Option.some.injEq] at e; omega); obtain ⟨y21, y22, y23, y24⟩ := pair_at hbx2)); (try (have hbx3 : w5.rowIs (u1.heap.size + 1 + 1) 33 2 (pairF (.slice none 0 0) (.slice none 0 0)) := row_grown (row_gr (w := ((u1.alloc (.cells #[] 3)).alloc (.cells (madeCells #[.int .i64 0] m) 3)).alloc (.cells #[.slice none 0 0, .slice none 0 0] 33)) (by have := pair_alloc ((u1.alloc (.cells #[] 3)).alloc (.cells (madeCells #[.int .i64 0] m) 3)) (.slice none 0 0) (.slice none 0 0) 33; simpa only [World.size_alloc] using this) (by (repeat (first | (with_reducible exact Gr.refl _) | (with_reducible assumption) | (with_reducible refine Gr.alloc ?_ _) | (with_reducible refine Gr.drew ?_) | (with_reducible refine Gr.set ?_ (by dsimp only; omega) _) | (with_reducible refine Gr.trans ?_ (by with_reducible assumption)))); first | done | fail)) hgrow5 (by intro q e; simp only [Value.ownBlock, Option.some.injEq] at e; omega); obtain ⟨y31, y32, y33, y34⟩ := pair_at hbx3)); (try (have hbx4 : w5.rowIs (u1.heap.size + 1 + 1) 33 2 (pairF (.slice none 0 0) (.slice none 0 0)) := row_grown (row_gr (w := ((u1.alloc (.cells (madeCells #[.int .i64 0] m) 3)).alloc (.cells #[] 3)).alloc (.cells #[.slice none 0 0, .slice none 0 0] 33)) (by have := pair_alloc ((u1.alloc (.cells (madeCells #[.int .i64 0] m) 3)).alloc (.cells #[] 3)) (.slice none 0 0) (.slice none 0 0) 33; simpa only [World.size_alloc] using this) (by (repeat (first | (with_reducible exact Gr.refl _) | (with_reducible assumption) | (with_reducible refine Gr.alloc ?_ _) | (with_reducible refine Gr.drew ?_) | (with_reducible refine Gr.set ?_ (by dsimp only; omega) _) | (with_reducible refine Gr.trans ?_ (by with_reducible assumption)))); first | done | fail)) hgrow5 (by intro q e; simp only [Value.ownBlock, Option.some.injEq] at e; omega); obtain ⟨y41, y42, y43, y44⟩ := pair_at hbx4)); clear hgrow5) | (refine step_intsZ rfl (.tmp 32) (.tmp 33) rfl u1.heap.size (.slice (some ⟨u1.heap.size + 1 + 1, 0, none⟩) 0 0) 0 [] rfl (by first | (refine empty_own (v := ((u1.alloc (.cells (madeCells #[.int .i64 0] m) 3)).alloc (.cells #[.slice none 0 0, .slice none 0 0] 33))) (by simp only [World.size_alloc]) (by omega) ?_; exact (by (repeat (first | (with_reducible exact Gr.refl _) | (with_reducible assumption) | (with_reducible refine Gr.alloc ?_ _) | (with_reducible refine Gr.drew ?_) | (with_reducible refine Gr.set ?_ (by dsimp only; omega) _) | (with_reducible refine Gr.trans ?_ (by with_reducible assumption)))); first | done | fail)) | (refine empty_own (v := ((u1.alloc (.cells #[.slice none 0 0, .slice none 0 0] 33)).alloc (.cells (madeCells #[.int .i64 0] m) 3))) (by simp only [World.size_alloc]) (by omega) ?_; exact (by (repeat (first | (with_reducible exact Gr.refl _) | (with_reducible assumption) | (with_reducible refine Gr.alloc ?_ _) | (with_reducible refine Gr.drew ?_) | (with_reducible refine Gr.set ?_ (by dsimp only; omega) _) | (with_reducible refine Gr.trans ?_ (by with_reducible assumption)))); first | done | fail))) ak m kc z rfl (hk.gr (by (repeat (first | (with_reducible exact Gr.refl _) | (with_reducible assumption) | (with_reducible refine Gr.alloc ?_ _) | (with_reducible refine Gr.drew ?_) | (with_reducible refine Gr.set ?_ (by dsimp only; omega) _) | (with_reducible refine Gr.trans ?_ (by with_reducible assumption)))); first | done | fail)) hkn (by omega) h0m (Gr.size (a := u1) (by (repeat (first | (with_reducible exact Gr.refl _) | (with_reducible assumption) | (with_reducible refine Gr.alloc ?_ _) | (with_reducible refine Gr.drew ?_) | (with_reducible refine Gr.set ?_ (by dsimp only; omega) _) | (with_reducible refine Gr.trans ?_ (by with_reducible assumption)))); first | done | fail)) ?_; intro a5 c5 w5 hown5 hgrow5; have hg5 : Gr u1 w5 := Gr.grown (by (repeat (first | (with_reducible exact Gr.refl _) | (with_reducible assumption) | (with_reducible refine Gr.alloc ?_ _) | (with_reducible refine Gr.drew ?_) | (with_reducible refine Gr.set ?_ (by dsimp only; omega) _) | (with_reducible refine Gr.trans ?_ (by with_reducible assumption)))); first | done | fail) hgrow5 (by intro q e; simp only [Value.ownBlock, Option.some.injEq] at e; omega); (try (have hbx0 : w5.rowIs (u1.heap.size) 33 2 (pairF (.slice none 0 0) (.slice none 0 0)) := row_grown (row_gr (w := u1.alloc (.cells #[.slice none 0 0, .slice none 0 0] 33)) (by have := pair_alloc u1 (.slice none 0 0) (.slice none 0 0) 33; simpa only [World.size_alloc] using this) (by (repeat (first | (with_reducible exact Gr.refl _) | (with_reducible assumption) | (with_reducible refine Gr.alloc ?_ _) | (with_reducible refine Gr.drew ?_) | (with_reducible refine Gr.set ?_ (by dsimp only; omega) _) | (with_reducible refine Gr.trans ?_ (by with_reducible assumption)))); first | done | fail)) hgrow5 (by intro q e; simp only [Value.ownBlock, Option.some.injEq] at e; omega); obtain ⟨y01, y02, y03, y04⟩ := pair_at hbx0)); (try (have hbx1 : w5.rowIs (u1.heap.size + 1) 33 2 (pairF (.slice none 0 0) (.slice none 0 0)) := row_grown (row_gr (w := (u1.alloc (.cells #[] 3)).alloc (.cells #[.slice none 0 0, .slice none 0 0] 33)) (by have := pair_alloc (u1.alloc (.cells #[] 3)) (.slice none 0 0) (.slice none 0 0) 33; simpa only [World.size_alloc] using this) (by (repeat (first | (with_reducible exact Gr.refl _) | (with_reducible assumption) | (with_reducible refine Gr.alloc ?_ _) | (with_reducible refine Gr.drew ?_) | (with_reducible refine Gr.set ?_ (by dsimp only; omega) _) | (with_reducible refine Gr.trans ?_ (by with_reducible assumption)))); first | done | fail)) hgrow5 (by intro q e; simp only [Value.ownBlock, Option.some.injEq] at e; omega); obtain ⟨y11, y12, y13, y14⟩ := pair_at hbx1)); (try (have hbx2 : w5.rowIs (u1.heap.size + 1) 33 2 (pairF (.slice none 0 0) (.slice none 0 0)) := row_grown (row_gr (w := (u1.alloc (.cells (madeCells #[.int .i64 0] m) 3)).alloc (.cells #[.slice none 0 0, .slice none 0 0] 33)) (by have := pair_alloc (u1.alloc (.cells (madeCells #[.int .i64 0] m) 3)) (.slice none 0 0) (.slice none 0 0) 33; simpa only [World.size_alloc] using this) (by (repeat (first | (with_reducible exact Gr.refl _) | (with_reducible assumption) | (with_reducible refine Gr.alloc ?_ _) | (with_reducible refine Gr.drew ?_) | (with_reducible refine Gr.set ?_ (by dsimp only; omega) _) | (with_reducible refine Gr.trans ?_ (by with_reducible assumption)))); first | done | fail)) hgrow5 (by intro q e; simp only [Value.ownBlock, Option.some.injEq] at e; omega); obtain ⟨y21, y22, y23, y24⟩ := pair_at hbx2)); (try (have hbx3 : w5.rowIs (u1.heap.size + 1 + 1) 33 2 (pairF (.slice none 0 0) (.slice none 0 0)) := row_grown (row_gr (w := ((u1.alloc (.cells #[] 3)).alloc (.cells (madeCells #[.int .i64 0] m) 3)).alloc (.cells #[.slice none 0 0, .slice none 0 0] 33)) (by have := pair_alloc ((u1.alloc (.cells #[] 3)).alloc (.cells (madeCells #[.int .i64 0] m) 3)) (.slice none 0 0) (.slice none 0 0) 33; simpa only [World.size_alloc] using this) (by (repeat (first | (with_reducible exact Gr.refl _) | (with_reducible assumption) | (with_reducible refine Gr.alloc ?_ _) | (with_reducible refine Gr.drew ?_) | (with_reducible refine Gr.set ?_ (by dsimp only; omega) _) | (with_reducible refine Gr.trans ?_ (by with_reducible assumption)))); first | done | fail)) hgrow5 (by intro q e; simp only [Value.ownBlock, Option.some.injEq] at e; omega); obtain ⟨y31, y32, y33, y34⟩ := pair_at hbx3)); (try (have hbx4 : w5.rowIs (u1.heap.size + 1 + 1) 33 2 (pairF (.slice none 0 0) (.slice none 0 0)) := row_grown (row_gr (w := ((u1.alloc (.cells (madeCells #[.int .i64 0] m) 3)).alloc (.cells #[] 3)).alloc (.cells #[.slice none 0 0, .slice none 0 0] 33)) (by have := pair_alloc ((u1.alloc (.cells (madeCells #[.int .i64 0] m) 3)).alloc (.cells #[] 3)) (.slice none 0 0) (.slice none 0 0) 33; simpa only [World.size_alloc] using this) (by (repeat (first | (with_reducible exact Gr.refl _) | (with_reducible assumption) | (with_reducible refine Gr.alloc ?_ _) | (with_reducible refine Gr.drew ?_) | (with_reducible refine Gr.set ?_ (by dsimp only; omega) _) | (with_reducible refine Gr.trans ?_ (by with_reducible assumption)))); first | done | fail)) hgrow5 (by intro q e; simp only [Value.ownBlock, Option.some.injEq] at e; omega); obtain ⟨y41, y42, y43, y44⟩ := pair_at hbx4)); clear hgrow5))
        all_goals (go_wp2_with fail; go_meet)
        all_goals (first | exact ⟨_, _, _, _, _, rfl, box_new _ rfl hown5 hg5⟩ | exact ⟨_, _, _, _, _, rfl, (box_new _ rfl hown5 hg5).alloc _⟩ | exact ⟨_, _, _, _, _, rfl, box_new (v := w5.alloc (.cells (madeCells #[.int .i64 0] m) 3)) _ (by simp only [World.size_alloc]) (own_gr hown5 ((Gr.refl w5).alloc _)) (hg5.alloc _)⟩ | exact ⟨_, _, _, _, _, rfl, box_end _ hbx0 hown5 hg5 (by omega)⟩ | exact ⟨_, _, _, _, _, rfl, (box_end _ hbx0 hown5 hg5 (by omega)).alloc _⟩ | exact ⟨_, _, _, _, _, rfl, box_end _ hbx1 hown5 hg5 (by omega)⟩ | exact ⟨_, _, _, _, _, rfl, (box_end _ hbx1 hown5 hg5 (by omega)).alloc _⟩ | exact ⟨_, _, _, _, _, rfl, box_end _ hbx2 hown5 hg5 (by omega)⟩ | exact ⟨_, _, _, _, _, rfl, (box_end _ hbx2 hown5 hg5 (by omega)).alloc _⟩ | exact ⟨_, _, _, _, _, rfl, box_end _ hbx3 hown5 hg5 (by omega)⟩ | exact ⟨_, _, _, _, _, rfl, (box_end _ hbx3 hown5 hg5 (by omega)).alloc _⟩ | exact ⟨_, _, _, _, _, rfl, box_end _ hbx4 hown5 hg5 (by omega)⟩ | exact ⟨_, _, _, _, _, rfl, (box_end _ hbx4 hown5 hg5 (by omega)).alloc _⟩)
      case rest =>
        obtain ⟨BF, ad0, ae0, cd0, ce0, rfl, hbox⟩ := hcut
        generalize wc = u2 at *
        have hbr := hbox.1
        have hBF := hbox.2.1
        have hD0 := hbox.2.2.1
        have hg2 := hbox.2.2.2
        have hBXl := hrow.lt
        have hrow2 := row_gr hrow hg2
        have t2 := t1.gr hg2
        have hgr2 := hgr.trans hg2
        have hne : BX ≠ BF := by omega
        have hwB : w.heap.size ≤ BF := by have := Gr.size hgr; omega
        have hwX : w.heap.size ≤ BX := by have := HBX.out; have := Gr.size HG2.out; omega
        replace c1 := cell_gr c1 hg2
        replace c2 := cell_gr c2 hg2
        replace c3 := cell_gr c3 hg2
        replace hsl := hsl.gr hg2
        replace hk := hk.gr hg2
        clear hbox hrow t1 hgr hmk h0m
        go_upto_if 40 with fail
        go_cut [4, 15] from 41 (fun lv iv u => ∃ (W' H' : Int) (g' n' c' : Nat) (f' : Nat → Int) (ad ae : Option Addr) (nd cd ne ce : Nat) (D : Nat → Int) (l : Int), lv = .int .i64 l ∧ u.rowIs BX 24 3 (tri (.int .i64 W') (.int .i64 H') (.slice (some ⟨g', 0, none⟩) n' c')) ∧ Sl u (some ⟨g', 0, none⟩) n' f' ∧ u.rowIs BF 33 2 (pairF (.slice ad nd cd) (.slice ae ne ce)) ∧ SlI u ae ne D ∧ Gr w u)
        case first =>
          cases raw with
          | true =>
            go_wp2_with fail
            go_meet
            exact ⟨W, H, g1, n, k1, f, ad0, ae0, m, cd0, m, ce0, z, lo, rfl, hrow2, t2, hbr, hD0, hgr2⟩
          | false =>
            go_wp2_with fail
            refine (madeTile_any x y a n cap f u2 hsl (by unfold maxLen; omega)).mono ?_
            rintro e u3 ⟨⟨gm, cm, N, rfl, hN, hown⟩, hgm⟩
            have hmay := made_may hsl.byte hN
            have hlo := hown.sl.2.2.1
            have HGM : Hid (gm ≠ BF) := hide (by have := hbr.lt; omega)
            have hrow3 := row_gr hrow2 hgm
            have hbr3 := row_gr hbr hgm
            have hgr3 := hgr2.trans hgm
            have hk3 := hk.gr hgm
            have hBX2 := hrow2.lt
            have hBF2 := hbr.lt
            obtain ⟨⟨r1, r2, r3⟩, hfz⟩ := row_tri10 hrow3
            clear c1 c2 c3 hsl hk
            generalize withinF x 1 16 = W' at *
            generalize withinF y 1 16 = H' at *
            generalize madeF n f = f' at *
            have N1 := (mayTB_n hmay).1
            have N2 := (mayTB_n hmay).2.1
            have hkp : Kp (fun k => k = BX) u3 (((u3.setCell ⟨BX, 0, none⟩ (.int .i64 W')).setCell ⟨BX, 1, none⟩ (.int .i64 H')).setCell ⟨BX, 2, none⟩ (.slice (some ⟨gm, 0, none⟩) N cm)) := (((Kp.refl (fun k => k = BX) u3).set (p := ⟨BX, 0, none⟩) (.inl rfl) _).set (p := ⟨BX, 1, none⟩) (.inl rfl) _).set (p := ⟨BX, 2, none⟩) (.inl rfl) _
            have hrow4 : (((u3.setCell ⟨BX, 0, none⟩ (.int .i64 W')).setCell ⟨BX, 1, none⟩ (.int .i64 H')).setCell ⟨BX, 2, none⟩ (.slice (some ⟨gm, 0, none⟩) N cm)).rowIs BX 24 3 (tri (.int .i64 W') (.int .i64 H') (.slice (some ⟨gm, 0, none⟩) N cm)) := (((hrow3.set 0 _).set 1 _).set 2 _).congr (fun i hi => by rcases (by omega : i = 0 ∨ i = 1 ∨ i = 2) with rfl | rfl | rfl <;> rfl)
            have hslm := hkp.sl hown.sl.2.2.2.2 (by omega)
            have hbr4 := hkp.row hbr3 (Ne.symm hne)
            have hgr4 := hkp.gr hgr3 (fun k e => by omega)
            have hk4 : SlI (((u3.setCell ⟨BX, 0, none⟩ (.int .i64 W')).setCell ⟨BX, 1, none⟩ (.int .i64 H')).setCell ⟨BX, 2, none⟩ (.slice (some ⟨gm, 0, none⟩) N cm)) ak m z := HK0.out.gr hgr4
            clear hkp hown hrow2 hrow3 hlo hgm hbr hbr3 hgr2 hgr3 hk3 hD0 t2 hN
            go_upto_region 7 with fail
            clear r1 r2 r3 hfz
            generalize (((u3.setCell ⟨BX, 0, none⟩ (.int .i64 W')).setCell ⟨BX, 1, none⟩ (.int .i64 H')).setCell ⟨BX, 2, none⟩ (.slice (some ⟨gm, 0, none⟩) N cm)) = u4 at *
            obtain ⟨⟨r1, r2, r3⟩, -⟩ := row_tri10 hrow4
            go_wp2_with fail
            refine (within_any lo (-1) (N : Int) u4 (by omega) (by omega) (by omega)).mono ?_
            rintro e u5 ⟨rfl, hd5⟩
            have hg5 := hd5.gr
            generalize withinF lo (-1) (N : Int) = lo2 at *
            replace hrow4 := row_gr hrow4 hg5
            replace hbr4 := row_gr hbr4 hg5
            replace hslm := hslm.gr hg5
            replace hgr4 := hgr4.trans hg5
            replace hk4 := hk4.gr hg5
            replace r3 := cell_gr r3 hg5
            clear r1 r2 hd5 hg5
            obtain ⟨y1, y2, y3, y4⟩ := pair_at hbr4
            have hBX5 := hrow4.lt
            have hBF5 := hbr4.lt
            have hmk := fun u => make_dirs N (by omega) u
            have hge5 := Gr.size hgr4
            go_upto_region 8 with fail
            go_cut [] from 51 to 59 (fun u => ∃ gx g4 : Nat, u.rowIs BF 33 2 (pairF (.slice (some ⟨gx, 0, none⟩) N N) (.slice (some ⟨g4, 0, none⟩) N N)) ∧ FarS u g4 N N (fun _ => 0) ∧ u5.heap.size ≤ g4 ∧ Kp (fun b => b = BF) u5 u)
            case first =>
              go_region
              all_goals (go_wp2_with fail; go_meet)
              all_goals (first | exact ⟨u5.heap.size, u5.heap.size + 1, (two_made hbr4 (by omega)).1, (two_made hbr4 (by omega)).2.2.1, Nat.le_succ _, (two_made hbr4 (by omega)).2.2.2⟩ | exact ⟨u5.heap.size + 1, u5.heap.size, (two_made hbr4 (by omega)).1, (two_made hbr4 (by omega)).2.1, Nat.le_refl _, (two_made hbr4 (by omega)).2.2.2⟩)
            case rest =>
              obtain ⟨gx, g4, hb6, hfd, hge4, hkp6⟩ := hcut
              generalize wc = u6 at *
              clear y1 y2 y3 y4 hmk
              have hrow6 := hkp6.row hrow4 hne
              have hslm6 := hkp6.sl hslm (by have := HGM.out; omega)
              have hgr6 := hkp6.gr hgr4 (fun k e => by omega)
              have hgm4 : gm ≠ g4 := by
                obtain ⟨b, o, e, hb, -⟩ := hslm.at (by omega)
                cases e
                omega
              have hBX4 : BX ≠ g4 := by omega
              have hBF4 : BF ≠ g4 := by omega
              have hwg4 : w.heap.size ≤ g4 := by omega
              have hg4l := hfd.lt
              obtain ⟨⟨r4, r5, r6⟩, -⟩ := row_tri10 hrow6
              obtain ⟨y1, y2, -, -⟩ := pair_at hb6
              have HKZ := hide (HK0.out.gr hgr6)
              clear hrow4 hslm hgr4 hbr4 hk4 r3 hkp6 hge4 hge5
              go_wp2_with fail
              go_loopw [15] (fun iv u => ∃ (j : Nat) (D : Nat → Int), iv = .int .i64 j ∧ j ≤ N ∧ FarS u g4 N N D ∧ Kp (fun b => b = g4) u6 u) (fun iv _ => N - (intOf iv).toNat)
              case atStart => exact ⟨0, _, rfl, by omega, hfd, Kp.refl _ _⟩
              case round =>
                obtain ⟨j, D, rfl, hj, hD, hkp⟩ := hrel
                generalize wr = u7 at *
                have r7 := hkp.cell r6 hBX4
                have y7 := hkp.cell y2 hBF4
                by_cases hgo : j < N ∧ 0 < m
                · obtain ⟨hjn, hm0⟩ := hgo
                  have hji : (j : Int) < (N : Int) := by omega
                  have hmi : (0 : Int) < (m : Int) := by omega
                  have hmz : ¬ (m : Int) = 0 := by omega
                  have hgr7 := hkp.gr hgr6 (fun k e => by omega)
                  obtain ⟨bz, oz, rfl, hbz, hcz⟩ := HK0.out.at (by omega)
                  obtain ⟨q, hq⟩ : ∃ q : Nat, q = j % m := ⟨_, rfl⟩
                  have hqm : q < m := by rw [hq]; exact Nat.mod_lt _ (by omega)
                  have hqI : (j : Int) % (m : Int) = (q : Int) := by rw [hq]; push_cast; rfl
                  have xz := cell_gr (hcz q hqm) hgr7
                  have hbz4 : bz ≠ g4 := by omega
                  obtain ⟨zv, hzv⟩ : ∃ zv, zv = z q := ⟨_, rfl⟩
                  rw [← hzv] at xz
                  have j0 : (0 : Int) ≤ (j : Int) := by omega
                  have q0 : (0 : Int) ≤ (q : Int) := by omega
                  have qm : (q : Int) < (m : Int) := by omega
                  have HQI := hide hqI
                  clear hcz hq hzv hqI hmz
                  go_wp2_with fail
                  have hmn : ¬ m = 0 := by omega
                  have htm : (j : Int).tmod (m : Int) = (q : Int) := by rw [tmod_pos _ _ (by omega) (by have := Int.tmod_nonneg (m : Int) (show (0 : Int) ≤ (j : Int) by omega); omega)]; exact HQI.out
                  go_region_held3 (fun u => u.cell? ⟨BF, 1, none⟩ = some (.slice (some ⟨g4, 0, none⟩) N N) ∧ u.cell? ⟨bz, oz + q, none⟩ = some (.int .i64 zv)) (first | exact ⟨y7, xz⟩ | exact ⟨cell_gr y7 hg9, cell_gr xz hg9⟩ | exact ⟨cell_set_far (cell_gr y7 hg9) hBF4, cell_set_far (cell_gr xz hg9) hbz4⟩)
                    (first | (go_at_call 19; refine (within_any zv 0 5 _ (by omega) (by omega) (by omega)).mono ?_; rintro e u8 ⟨rfl, hd8⟩; have hg9 : Gr u7 u8 := ((Gr.refl u7).drew).trans hd8.gr; have hD9 := hD.gr hg9; have f1 := hD9.cell hjn; have f2 := hD9.frozen j))
                  go_wp2_with fail
                  go_roundw
                  case rel => exact ⟨j + 1, _, by go_num, by omega, hD9.set j _, (hkp.grb hg9).set (.inl rfl) _⟩
                  case measure => simp [intOf]; omega
                · have hx : (j = N) ∨ (j < N ∧ m = 0) := by omega
                  have hrow7 := hkp.row hrow6 hBX4
                  have hb7 := hkp.row hb6 hBF4
                  have hsl7 := hkp.sl hslm6 hgm4
                  have hgr7 := hkp.gr hgr6 (fun k e => by omega)
                  have HEND := hide (show ∃ (W' H' : Int) (g' n' c' : Nat) (f' : Nat → Int) (ad ae : Option Addr) (nd cd ne ce : Nat) (D : Nat → Int) (l : Int), (Value.int .i64 lo2) = .int .i64 l ∧ u7.rowIs BX 24 3 (tri (.int .i64 W') (.int .i64 H') (.slice (some ⟨g', 0, none⟩) n' c')) ∧ Sl u7 (some ⟨g', 0, none⟩) n' f' ∧ u7.rowIs BF 33 2 (pairF (.slice ad nd cd) (.slice ae ne ce)) ∧ SlI u7 ae ne D ∧ Gr w u7 from
                    ⟨W', H', gm, N, cm, f', some ⟨gx, 0, none⟩, some ⟨g4, 0, none⟩, N, N, N, N, D, lo2, rfl, hrow7, hsl7, hb7, hD.sli, hgr7⟩)
                  clear hrow7 hb7 hsl7 hgr7 hgo
                  rcases hx with rfl | ⟨hjn, rfl⟩
                  · have hji : ¬ (j : Int) < (j : Int) := by omega
                    go_wp2_with fail
                    go_meet
                    exact HEND.out
                  · have hji : (j : Int) < (N : Int) := by omega
                    go_wp2_with fail
                    go_meet
                    exact HEND.out
        case rest =>
          obtain ⟨W', H', g', n', c', f', ad, ae, nd, cd, ne, ce, D, l, rfl, hrow3, hsl3, hb3, hD3, hgr3⟩ := hcut
          clear hrow2 t2 hbr hD0 hgr2 hg2 c1 c2 c3 hsl hk
          generalize wc = v1 at *
          obtain ⟨⟨r1, r2, r3⟩, -⟩ := row_tri10 hrow3
          obtain ⟨y1, y2, -, -⟩ := pair_at hb3
          clear hrow3 hb3
          cases hok : walkOk W' H' n' f' nd ne l with
          | false =>
            have HOK := hide hok
            clear hok
            go_wp2_with fail
            refine (walk_no W' H' _ n' c' f' ad nd cd ae ne ce l v1 hsl3 HOK.out).mono ?_
            rintro e v2 ⟨rfl, hg2⟩
            replace r1 := cell_gr r1 hg2
            replace r2 := cell_gr r2 hg2
            replace r3 := cell_gr r3 hg2
            replace y1 := cell_gr y1 hg2
            replace y2 := cell_gr y2 hg2
            go_wp2_with fail
            refine (rwalk_no W' H' _ n' c' f' ad nd cd ae ne ce l v2 (hsl3.gr hg2) HOK.out).mono ?_
            rintro e v3 ⟨rfl, hg3⟩
            go_wp2_with fail
            refine (told10_any _).mono ?_
            rintro e v4 ⟨rfl, hg4⟩
            go_wp2_with fail
            refine (ints_same none none 0 0 0 (fun _ => 0) v4 (.inl rfl) (.inl rfl) (by omega)).mono ?_
            rintro e v5 ⟨rfl, hd5⟩
            go_wp2_with fail
            go_ret
            exact ⟨rfl, (((hgr3.trans hg2).trans hg3).trans hg4).trans hd5.gr⟩
          | true =>
            unfold walkOk fitF at hok
            simp only [Bool.and_eq_true, decide_eq_true_eq] at hok
            obtain ⟨⟨⟨⟨hm, rfl⟩, rfl⟩, hl0⟩, hln⟩ := hok
            obtain ⟨k, rfl⟩ : ∃ k : Nat, l = (k : Int) := ⟨l.toNat, by omega⟩
            have hk1 : k < ne := by omega
            have hn2 := (mayTB_n hm).2.1
            go_wp2_with fail
            refine (walk_yes hsl3 hm hk1 hD3).mono ?_
            rintro e v2 ⟨⟨j, a5, cj, rfl, hw1, hs1, -⟩, hg2⟩
            replace r1 := cell_gr r1 hg2
            replace r2 := cell_gr r2 hg2
            replace r3 := cell_gr r3 hg2
            replace y1 := cell_gr y1 hg2
            replace y2 := cell_gr y2 hg2
            have hjn := hw1.le
            have HW1 := hide hw1
            have HS1 := hide hs1
            obtain ⟨dv, hdv⟩ : ∃ dv, dv = D (posF (nearF W' H' ne f') D k j) := ⟨_, rfl⟩
            rw [← hdv]
            have HDV := hide hdv
            clear hw1 hs1 hdv
            go_wp2_with fail
            refine (rwalk_yes (hsl3.gr hg2) hm hk1 (hD3.gr hg2)).mono ?_
            rintro e v3 ⟨⟨j2, a6, cj2, rfl, hw2, hs2, -⟩, hg3⟩
            obtain rfl := HW1.out.uniq hw2
            rw [← HDV.out]
            have HS2 := hide hs2
            clear hw2 hs2
            go_wp2_with fail
            refine (told10_any _).mono ?_
            rintro e v4 ⟨rfl, hg4⟩
            go_wp2_with fail
            refine (ints_same _ _ (j + 1) _ _ _ v4 ((HS1.out.gr hg3).gr hg4) (HS2.out.gr hg4) (by omega)).mono ?_
            rintro e v5 ⟨rfl, hd5⟩
            go_wp2_with fail
            go_ret
            exact ⟨rfl, (((hgr3.trans hg2).trans hg3).trans hg4).trans hd5.gr⟩
end Go.Proofs.Ytlnbolaaaahoaaa
