/- How far it is from node to node of one sector, as the document reckons it. No condition. -/
import Derived.Test.YtgbadbkipaccgaaGreatMRDist14
namespace Go.Proofs.YtgbadbkipaccgaaGreat
open Go.RowKit
set_option maxRecDepth 20000

theorem kp_set3' {S : Nat → Prop} (w : World) {q i j k : Nat} (hq : S q) (a b c : Value) : Kp S w (((w.setCell ⟨q, i, none⟩ a).setCell ⟨q, j, none⟩ b).setCell ⟨q, k, none⟩ c) :=
  Kp.set (S := S) (p := ⟨q, k, none⟩) (Kp.set (S := S) (p := ⟨q, j, none⟩) (Kp.set (S := S) (p := ⟨q, i, none⟩) (Kp.refl _ w) (.inl hq) _) (.inl hq) _) (.inl hq) _
/-- a tile in a box of its own -/
def TBox (u1 u : World) (v : Value) (TW TH : Int) (TN : Nat) (F : Nat → Int) : Prop :=
  ∃ B7 g c', v = .pointer (some ⟨B7, 0, none⟩) ∧ u.rowIs B7 83 3 (tri (.int .i64 TW) (.int .i64 TH) (.slice (some ⟨g, 0, none⟩) TN c')) ∧ Sl u (some ⟨g, 0, none⟩) TN F ∧ Gr u1 u
theorem tbox_A {u1 w9 : World} {base g TN c' : Nat} {TW TH : Int} {F : Nat → Int} (ho : OwnB w9 base g TN c' F) (hg : Gr u1 w9) :
    TBox u1 (w9.alloc (.cells #[.int .i64 TW, .int .i64 TH, .slice (some ⟨g, 0, none⟩) TN c'] 83)) (.pointer (some ⟨w9.heap.size, 0, none⟩)) TW TH TN F :=
  ⟨w9.heap.size, g, c', rfl, tri_alloc _ _ _ _ _, ho.sl.2.2.2.2.gr ((Gr.refl w9).alloc _), hg.alloc _⟩
theorem tbox_B {u1 u w9 : World} {B7 base g TN c' : Nat} {TW TH : Int} {F : Nat → Int} (hB : B7 = u.heap.size) (hu : Gr u1 u) (hg : Gr (u.alloc (.cells #[.int .i64 0, .int .i64 0, .slice none 0 0] 83)) w9) (ho : OwnB w9 base g TN c' F) (hb : (u.alloc (.cells #[.int .i64 0, .int .i64 0, .slice none 0 0] 83)).heap.size ≤ base) :
    TBox u1 (((w9.setCell ⟨B7, 0, none⟩ (.int .i64 TW)).setCell ⟨B7, 1, none⟩ (.int .i64 TH)).setCell ⟨B7, 2, none⟩ (.slice (some ⟨g, 0, none⟩) TN c')) (.pointer (some ⟨B7, 0, none⟩)) TW TH TN F := by
  subst hB
  obtain ⟨q1, q2, q3, q4, q5⟩ := ho.sl
  rw [World.size_alloc] at hb
  have hk := kp_set3' w9 (S := fun b => b = u.heap.size) (q := u.heap.size) (i := 0) (j := 1) (k := 2) rfl (.int .i64 TW) (.int .i64 TH) (.slice (some ⟨g, 0, none⟩) TN c')
  exact ⟨u.heap.size, g, c', rfl, row_set3 (row_gr (tri_alloc u _ _ _ _) hg), hk.sl q5 (by omega), hk.gr ((hu.alloc _).trans hg) (fun b e => by have := hu.size; omega)⟩

theorem keep5 {u z : World} {b c : Nat} {x y p q r : Value} (h : u.cell? ⟨b, 0, none⟩ = some x ∧ u.cell? ⟨b, 1, none⟩ = some y ∧ u.cell? ⟨c, 0, none⟩ = some p ∧ u.cell? ⟨c, 1, none⟩ = some q ∧ u.cell? ⟨c, 2, none⟩ = some r) (g : Gr u z) : z.cell? ⟨b, 0, none⟩ = some x ∧ z.cell? ⟨b, 1, none⟩ = some y ∧ z.cell? ⟨c, 0, none⟩ = some p ∧ z.cell? ⟨c, 1, none⟩ = some q ∧ z.cell? ⟨c, 2, none⟩ = some r ∧ Gr u z :=
  ⟨cell_gr h.1 g, cell_gr h.2.1 g, cell_gr h.2.2.1 g, cell_gr h.2.2.2.1 g, cell_gr h.2.2.2.2 g, g⟩

set_option maxHeartbeats 4000000 in
theorem rdist_yes (W H : Int) (a : Option Addr) (n cap : Nat) (f : Nat → Int) (x y : Int) (w : World) (h : Sl w a n f) (hm : mayM W H n f = true) (hx : nodB W H n f x = true) (hy : nodB W H n f y = true) (hxy : sectorF W x = sectorF W y) :
    Calls Tryz.prog 19 #[.agg #[.int .i64 W, .int .i64 H, .slice a n cap], .int .i64 x, .int .i64 y] w fun e w' => e = .returned (.int .i64 (distF W H n f x y)) ∧ Gr w w' := by
  obtain ⟨hmb, hN, hf0⟩ := (mayM_iff _ _ _ _).1 hm
  obtain ⟨k, s, i, e1, a1, a2, a3, a4, a5, a6, a7, a8⟩ := node_at hmb hN hx
  obtain ⟨m, s', j, e2, b1, b2, b3, b4, b5, b6, b7, b8⟩ := node_at hmb hN hy
  obtain rfl : s = s' := by omega
  have hga : Gr w (w.alloc (.cells #[.int .i64 W, .int .i64 H, .slice a n cap] 24)) := (Gr.refl w).alloc _
  have hB := tri_alloc w (.int .i64 W) (.int .i64 H) (.slice a n cap) 24
  obtain ⟨c1, c2, c3, -, -, -⟩ := row_cells hB
  have HA := hide (fun u (k : Gr (w.alloc (.cells #[.int .i64 W, .int .i64 H, .slice a n cap] 24)) u) => risnode_any W H a n cap f x u (h.gr (hga.trans k)))
  have HB := hide (fun u (k : Gr (w.alloc (.cells #[.int .i64 W, .int .i64 H, .slice a n cap] 24)) u) => risnode_any W H a n cap f y u (h.gr (hga.trans k)))
  have HTO := hide (fun u (k : Gr (w.alloc (.cells #[.int .i64 W, .int .i64 H, .slice a n cap] 24)) u) => rtileOf_any W H a n cap f s u (h.gr (hga.trans k)) hm a2)
  have hcx : isCellB W H x = true := by rw [isCellB_iff]; exact ⟨hmb, by omega, by omega⟩
  have hcy : isCellB W H y = true := by rw [isCellB_iff]; exact ⟨hmb, by omega, by omega⟩
  have HS1 := hide (fun u => rsector_any W H x u)
  have HS2 := hide (fun u => rsector_any W H y u)
  rw [secF_yes hcx, a4] at HS1
  rw [secF_yes hcy, b4] at HS2
  have HL1 := hide (fun u => rlocal_yes W H x u hcx)
  have HL2 := hide (fun u => rlocal_yes W H y u hcy)
  rw [a5] at HL1
  rw [b5] at HL2
  have htb := tile_may hm (sec_of a2)
  have ho : tileF W s f j ≠ 255 := by unfold tileF; rw [b6]; exact b7
  have HD : Hid (∀ d, Sprd (nearF (twF W s) (thF W H s) (tnF W H s) (tileF W s f)) (tileF W s f) (tnF W H s) (goalL (j : Int)) d → distF W H n f x y = d i) := hide (fun d hd => by
    unfold distF
    rw [if_pos ⟨hx, hy, hxy⟩, b4, b5, a5, Int.toNat_natCast, Int.toNat_natCast, Int.toNat_natCast]
    exact sprF_eq hd a3)
  rw [hx] at HA
  rw [hy] at HB
  have HTB := hide htb
  generalize twF W s = TW at *
  generalize thF W H s = TH at *
  generalize tnF W H s = TN at *
  generalize tileF W s f = TF at *
  clear hB h hm hmb hN hf0 hx hy hxy hcx hcy a1 a2 a4 a5 a6 a7 a8 b1 b2 b4 b5 b6 b7 b8 e1 e2 htb
  go_enter Tryz.func19, Tryz.ntmps19
  go_wp2_with fail
  generalize (w.alloc (.cells #[.int .i64 W, .int .i64 H, .slice a n cap] 24)) = u0 at *
  obtain ⟨B0, hBe⟩ : ∃ B0, w.heap.size = B0 := ⟨_, rfl⟩
  rw [hBe] at c1 c2 c3 ⊢
  go_region_held3 (fun z => z.cell? ⟨B0, 0, none⟩ = some (.int .i64 W) ∧ z.cell? ⟨B0, 1, none⟩ = some (.int .i64 H) ∧ z.cell? ⟨B0, 2, none⟩ = some (.slice a n cap) ∧ Gr u0 z) (first | exact ⟨c1, c2, c3, (Gr.refl _).drew⟩ | exact ⟨cell_gr hS.1 hg9, cell_gr hS.2.1 hg9, cell_gr hS.2.2.1 hg9, hS.2.2.2.trans hg9⟩) (first
      | (go_at_call 44; have hz := hgA; have hS := ‹_ ∧ _ ∧ _ ∧ Gr _ _›; refine (HB.out _ hS.2.2.2).mono ?_; rintro e w9 ⟨rfl, hg9⟩)
      | (go_at_call 44; have hS := ‹_ ∧ _ ∧ _ ∧ Gr _ _›; refine (HA.out _ hS.2.2.2).mono ?_; rintro e w9 ⟨rfl, hg9⟩; have hgA := hg9)
      | (go_at_call 45; have hz := hgS; have hS := ‹_ ∧ _ ∧ _ ∧ Gr _ _›; refine (HS2.out _).mono ?_; rintro e w9 ⟨rfl, hd9⟩; have hg9 := hd9.gr)
      | (go_at_call 45; have hS := ‹_ ∧ _ ∧ _ ∧ Gr _ _›; refine (HS1.out _).mono ?_; rintro e w9 ⟨rfl, hd9⟩; have hg9 := hd9.gr; have hgS := hg9))
  obtain ⟨d1, d2, d3, hgu⟩ := ‹_ ∧ _ ∧ _ ∧ Gr u0 _›
  have HTO1 := hide (fun u (k : Gr w9 u) => HTO.out u (hgu.trans k))
  clear c1 c2 c3
  go_upto_region 3 with fail
  go_cut [7] from 33 (fun v u => TBox w9 u v TW TH TN TF)
  case first =>
    go_region_held3 (fun z => z.cell? ⟨B0, 0, none⟩ = some (.int .i64 W) ∧ z.cell? ⟨B0, 1, none⟩ = some (.int .i64 H) ∧ z.cell? ⟨B0, 2, none⟩ = some (.slice a n cap) ∧ Gr w9 z) ((refine keepG ⟨d1, d2, d3⟩ ?_; exact (by (repeat (first | (with_reducible exact Gr.refl _) | (with_reducible assumption) | (with_reducible refine Gr.alloc ?_ _) | (with_reducible refine Gr.drew ?_) | (with_reducible refine Gr.set ?_ (by dsimp only; omega) _) | (with_reducible refine Gr.trans ?_ (by with_reducible assumption)))); first | done | fail))) (first
      | (go_at_call 46; have hS := ‹_ ∧ _ ∧ _ ∧ Gr w9 _›; refine (HTO1.out _ hS.2.2.2).mono ?_; rintro e w8 ⟨⟨g8, c8, rfl, ho8⟩, hg8⟩; (try (have hbx : w8.rowIs w9.heap.size 83 3 (tri (.int .i64 0) (.int .i64 0) (.slice none 0 0)) := row_gr (w := w9.alloc (.cells #[.int .i64 0, .int .i64 0, .slice none 0 0] 83)) (tri_alloc w9 _ _ _ _) (by (repeat (first | (with_reducible exact Gr.refl _) | (with_reducible assumption) | (with_reducible refine Gr.alloc ?_ _) | (with_reducible refine Gr.drew ?_) | (with_reducible refine Gr.set ?_ (by dsimp only; omega) _) | (with_reducible refine Gr.trans ?_ (by with_reducible assumption)))); first | done | fail); obtain ⟨y1, y2, y3, y4, y5, y6⟩ := row_cells hbx)); (try (have hbx : w8.rowIs w7.heap.size 83 3 (tri (.int .i64 0) (.int .i64 0) (.slice none 0 0)) := row_gr (w := w7.alloc (.cells #[.int .i64 0, .int .i64 0, .slice none 0 0] 83)) (tri_alloc w7 _ _ _ _) (by (repeat (first | (with_reducible exact Gr.refl _) | (with_reducible assumption) | (with_reducible refine Gr.alloc ?_ _) | (with_reducible refine Gr.drew ?_) | (with_reducible refine Gr.set ?_ (by dsimp only; omega) _) | (with_reducible refine Gr.trans ?_ (by with_reducible assumption)))); first | done | fail); obtain ⟨y1, y2, y3, y4, y5, y6⟩ := row_cells hbx)))
      | (go_at_call 45; have hS := ‹_ ∧ _ ∧ _ ∧ Gr w9 _›; refine (HS1.out _).mono ?_; rintro e w7 ⟨rfl, hd9⟩; have hg9 := hd9.gr; have hsz7 : w9.heap.size ≤ w7.heap.size := Gr.size (a := w9) (by (repeat (first | (with_reducible exact Gr.refl _) | (with_reducible assumption) | (with_reducible refine Gr.alloc ?_ _) | (with_reducible refine Gr.drew ?_) | (with_reducible refine Gr.set ?_ (by dsimp only; omega) _) | (with_reducible refine Gr.trans ?_ (by with_reducible assumption)))); first | done | fail)))
    all_goals
      go_wp2_with fail
      go_meet
    all_goals first
      | exact tbox_A ho8 (by (repeat (first | (with_reducible exact Gr.refl _) | (with_reducible assumption) | (with_reducible refine Gr.alloc ?_ _) | (with_reducible refine Gr.drew ?_) | (with_reducible refine Gr.set ?_ (by dsimp only; omega) _) | (with_reducible refine Gr.trans ?_ (by with_reducible assumption)))); first | done | fail)
      | exact tbox_B (u := w9) rfl (Gr.refl _) (by (repeat (first | (with_reducible exact Gr.refl _) | (with_reducible assumption) | (with_reducible refine Gr.alloc ?_ _) | (with_reducible refine Gr.drew ?_) | (with_reducible refine Gr.set ?_ (by dsimp only; omega) _) | (with_reducible refine Gr.trans ?_ (by with_reducible assumption)))); first | done | fail) ho8 (Gr.size (by (repeat (first | (with_reducible exact Gr.refl _) | (with_reducible assumption) | (with_reducible refine Gr.alloc ?_ _) | (with_reducible refine Gr.drew ?_) | (with_reducible refine Gr.set ?_ (by dsimp only; omega) _) | (with_reducible refine Gr.trans ?_ (by with_reducible assumption)))); first | done | fail))
      | exact tbox_B (u := w7) rfl (by (repeat (first | (with_reducible exact Gr.refl _) | (with_reducible assumption) | (with_reducible refine Gr.alloc ?_ _) | (with_reducible refine Gr.drew ?_) | (with_reducible refine Gr.set ?_ (by dsimp only; omega) _) | (with_reducible refine Gr.trans ?_ (by with_reducible assumption)))); first | done | fail) hg8 ho8 (Nat.le_refl _)
  case rest =>
    obtain ⟨B7, g7, c7, rfl, hbx, hsl7, hg79⟩ := hcut
    obtain ⟨t1, t2, t3, -, -, -⟩ := row_cells hbx
    replace d1 := cell_gr d1 hg79
    replace d2 := cell_gr d2 hg79
    have hgw : Gr w wc := (hga.trans hgu).trans hg79
    have HSL7 := hide hsl7
    have hiI : (i : Int) < (TN : Int) := by omega
    have hi0 : 0 ≤ (i : Int) := by omega
    clear hbx hsl7 hgu hg79 d3 HTO1
    go_wp2_with fail
    refine wp_region_held_drew (S := (fun z => z.cell? ⟨B0, 0, none⟩ = some (.int .i64 W) ∧ z.cell? ⟨B0, 1, none⟩ = some (.int .i64 H) ∧ z.cell? ⟨B7, 0, none⟩ = some (.int .i64 TW) ∧ z.cell? ⟨B7, 1, none⟩ = some (.int .i64 TH) ∧ z.cell? ⟨B7, 2, none⟩ = some (.slice (some ⟨g7, 0, none⟩) TN c7) ∧ Gr wc z)) (by kernel_rfl) (by refine keep5 ⟨d1, d2, t1, t2, t3⟩ ?_; exact (by (repeat (first | (with_reducible exact Gr.refl _) | (with_reducible assumption) | (with_reducible refine Gr.alloc ?_ _) | (with_reducible refine Gr.drew ?_) | (with_reducible refine Gr.set ?_ (by dsimp only; omega) _) | (with_reducible refine Gr.trans ?_ (by with_reducible assumption)))); first | done | fail)) (fun hHeld => ?_)
    refine wpAnyH_take (i := 0) (oi := { dst := some 41, op := Op.load 83 (Operand.tmp 7), type := 83, pos := "ref.go:156", after := #[], guard := none }) (v := ?_) rfl (by kernel_rfl) (by kernel_rfl) (by kernel_rfl) (fun _ _ _ h => h) (Or.inl ⟨by rfl, ?_⟩) (by assumption) ?_
    rotate_left
    · intro w hSw
      try dsimp only at hSw
      go_simp
      try with_reducible rfl
    try simp only [Act.put, List.setIfInBounds_toArray, List.set_cons_zero, List.set_cons_succ]
    refine wpAnyH_take (i := 1) (oi := { dst := some 42, op := Op.fieldAddr 24 (Operand.tmp 3) 0, type := 0, pos := "ref.go:156", after := #[], guard := none }) (v := ?_) rfl (by kernel_rfl) (by kernel_rfl) (by kernel_rfl) (fun _ _ _ h => h) (Or.inl ⟨by rfl, ?_⟩) (by assumption) ?_
    rotate_left
    · intro w hSw
      try dsimp only at hSw
      go_simp
      try with_reducible rfl
    try simp only [Act.put, List.setIfInBounds_toArray, List.set_cons_zero, List.set_cons_succ]
    refine wpAnyH_take (i := 2) (oi := { dst := some 43, op := Op.load 3 (Operand.tmp 42), type := 3, pos := "ref.go:156", after := #[{ on := 1, ground := Ground.data }], guard := none }) (v := ?_) rfl (by kernel_rfl) (by kernel_rfl) (by kernel_rfl) (fun _ _ _ h => h) (Or.inl ⟨by rfl, ?_⟩) (by assumption) ?_
    rotate_left
    · intro w hSw
      try dsimp only at hSw
      go_simp
      try with_reducible rfl
    try simp only [Act.put, List.setIfInBounds_toArray, List.set_cons_zero, List.set_cons_succ]
    refine wpAnyH_take (i := 3) (oi := { dst := some 44, op := Op.fieldAddr 24 (Operand.tmp 3) 1, type := 0, pos := "ref.go:156", after := #[], guard := none }) (v := ?_) rfl (by kernel_rfl) (by kernel_rfl) (by kernel_rfl) (fun _ _ _ h => h) (Or.inl ⟨by rfl, ?_⟩) (by assumption) ?_
    rotate_left
    · intro w hSw
      try dsimp only at hSw
      go_simp
      try with_reducible rfl
    try simp only [Act.put, List.setIfInBounds_toArray, List.set_cons_zero, List.set_cons_succ]
    refine wpAnyH_take (i := 4) (oi := { dst := some 45, op := Op.load 3 (Operand.tmp 44), type := 3, pos := "ref.go:156", after := #[{ on := 3, ground := Ground.data }], guard := none }) (v := ?_) rfl (by kernel_rfl) (by kernel_rfl) (by kernel_rfl) (fun _ _ _ h => h) (Or.inl ⟨by rfl, ?_⟩) (by assumption) ?_
    rotate_left
    · intro w hSw
      try dsimp only at hSw
      go_simp
      try with_reducible rfl
    try simp only [Act.put, List.setIfInBounds_toArray, List.set_cons_zero, List.set_cons_succ]
    refine wpAnyH_take (i := 5) (oi := { dst := some 46, op := Op.move (Operand.tmp 2), type := 3, pos := "ref.go:156", after := #[], guard := none }) (v := ?_) rfl (by kernel_rfl) (by kernel_rfl) (by kernel_rfl) (fun _ _ _ h => h) (Or.inl ⟨by rfl, ?_⟩) (by assumption) ?_
    rotate_left
    · intro w hSw
      try dsimp only at hSw
      go_simp
      try with_reducible rfl
    try simp only [Act.put, List.setIfInBounds_toArray, List.set_cons_zero, List.set_cons_succ]
    refine wpAnyH_take (i := 10) (oi := { dst := some 51, op := Op.fieldAddr 24 (Operand.tmp 3) 0, type := 0, pos := "ref.go:156", after := #[], guard := none }) (v := ?_) rfl (by kernel_rfl) (by kernel_rfl) (by kernel_rfl) (fun _ _ _ h => h) (Or.inl ⟨by rfl, ?_⟩) (by assumption) ?_
    rotate_left
    · intro w hSw
      try dsimp only at hSw
      go_simp
      try with_reducible rfl
    try simp only [Act.put, List.setIfInBounds_toArray, List.set_cons_zero, List.set_cons_succ]
    refine wpAnyH_take (i := 11) (oi := { dst := some 52, op := Op.load 3 (Operand.tmp 51), type := 3, pos := "ref.go:156", after := #[{ on := 10, ground := Ground.data }], guard := none }) (v := ?_) rfl (by kernel_rfl) (by kernel_rfl) (by kernel_rfl) (fun _ _ _ h => h) (Or.inl ⟨by rfl, ?_⟩) (by assumption) ?_
    rotate_left
    · intro w hSw
      try dsimp only at hSw
      go_simp
      try with_reducible rfl
    try simp only [Act.put, List.setIfInBounds_toArray, List.set_cons_zero, List.set_cons_succ]
    refine wpAnyH_take (i := 12) (oi := { dst := some 53, op := Op.fieldAddr 24 (Operand.tmp 3) 1, type := 0, pos := "ref.go:156", after := #[], guard := none }) (v := ?_) rfl (by kernel_rfl) (by kernel_rfl) (by kernel_rfl) (fun _ _ _ h => h) (Or.inl ⟨by rfl, ?_⟩) (by assumption) ?_
    rotate_left
    · intro w hSw
      try dsimp only at hSw
      go_simp
      try with_reducible rfl
    try simp only [Act.put, List.setIfInBounds_toArray, List.set_cons_zero, List.set_cons_succ]
    refine wpAnyH_take (i := 13) (oi := { dst := some 54, op := Op.load 3 (Operand.tmp 53), type := 3, pos := "ref.go:156", after := #[{ on := 12, ground := Ground.data }], guard := none }) (v := ?_) rfl (by kernel_rfl) (by kernel_rfl) (by kernel_rfl) (fun _ _ _ h => h) (Or.inl ⟨by rfl, ?_⟩) (by assumption) ?_
    rotate_left
    · intro w hSw
      try dsimp only at hSw
      go_simp
      try with_reducible rfl
    try simp only [Act.put, List.setIfInBounds_toArray, List.set_cons_zero, List.set_cons_succ]
    refine wpAnyH_take (i := 14) (oi := { dst := some 55, op := Op.move (Operand.tmp 1), type := 3, pos := "ref.go:156", after := #[], guard := none }) (v := ?_) rfl (by kernel_rfl) (by kernel_rfl) (by kernel_rfl) (fun _ _ _ h => h) (Or.inl ⟨by rfl, ?_⟩) (by assumption) ?_
    rotate_left
    · intro w hSw
      try dsimp only at hSw
      go_simp
      try with_reducible rfl
    try simp only [Act.put, List.setIfInBounds_toArray, List.set_cons_zero, List.set_cons_succ]
    refine wpAnyH_ready (rs := [6]) (by kernel_rfl) (by simp) ?_
    refine AllReadyH.cons (o := { dst := some 47, op := Op.call { callee := Callee.value (Operand.func 48), args := #[Operand.tmp 43, Operand.tmp 45, Operand.tmp 46], argTypes := #[3, 3, 3] }, type := 3, pos := "ref.go:156", after := #[{ on := 2, ground := Ground.data }, { on := 4, ground := Ground.data }, { on := 5, ground := Ground.data }], guard := none }) rfl (fun K hK => ?_) AllReadyH.nil
    go_simp
    refine (HL2.out _).mono ?_; rintro e w6 ⟨rfl, hd6⟩; have hg6 := hd6.gr
    go_wp2_with fail
    refine Shut.out hK _ _ ?_ (fun hHeld => ?_)
    · refine keep5 ⟨d1, d2, t1, t2, t3⟩ ?_; exact (by (repeat (first | (with_reducible exact Gr.refl _) | (with_reducible assumption) | (with_reducible refine Gr.alloc ?_ _) | (with_reducible refine Gr.drew ?_) | (with_reducible refine Gr.set ?_ (by dsimp only; omega) _) | (with_reducible refine Gr.trans ?_ (by with_reducible assumption)))); first | done | fail)
    clear hK K
    try simp only [Act.put, List.setIfInBounds_toArray, List.set_cons_zero, List.set_cons_succ]
    refine wpAnyH_take (i := 7) (oi := { dst := some 48, op := Op.build 87 #[(0, Operand.tmp 47), (1, Operand.const (Value.int IntKind.i64 4))], type := 87, pos := "ref.go:156", after := #[{ on := 6, ground := Ground.data }], guard := none }) (v := ?_) rfl (by kernel_rfl) (by kernel_rfl) (by kernel_rfl) (fun _ _ _ h => h) (Or.inl ⟨by rfl, ?_⟩) (by assumption) ?_
    rotate_left
    · intro w hSw
      try dsimp only at hSw
      go_simp
      try with_reducible rfl
    try simp only [Act.put, List.setIfInBounds_toArray, List.set_cons_zero, List.set_cons_succ]
    refine wpAnyH_ready (rs := [8]) (by kernel_rfl) (by simp) ?_
    refine AllReadyH.cons (o := { dst := some 49, op := Op.buildSlice 88 1 #[(0, Operand.tmp 48)], type := 88, pos := "ref.go:156", after := #[{ on := 7, ground := Ground.data }], guard := none }) rfl (fun K hK => ?_) AllReadyH.nil
    go_simp
    refine Shut.out hK _ _ ?_ (fun hHeld => ?_)
    · refine keep5 ⟨d1, d2, t1, t2, t3⟩ ?_; exact (by (repeat (first | (with_reducible exact Gr.refl _) | (with_reducible assumption) | (with_reducible refine Gr.alloc ?_ _) | (with_reducible refine Gr.drew ?_) | (with_reducible refine Gr.set ?_ (by dsimp only; omega) _) | (with_reducible refine Gr.trans ?_ (by with_reducible assumption)))); first | done | fail)
    clear hK K
    try simp only [Act.put, List.setIfInBounds_toArray, List.set_cons_zero, List.set_cons_succ]
    refine wpAnyH_ready (rs := [9]) (by kernel_rfl) (by simp) ?_
    refine AllReadyH.cons (o := { dst := some 50, op := Op.call { callee := Callee.value (Operand.func 47), args := #[Operand.tmp 41, Operand.tmp 49], argTypes := #[83, 88] }, type := 31, pos := "ref.go:156", after := #[{ on := 0, ground := Ground.data }, { on := 8, ground := Ground.data }, { on := 6, ground := Ground.chain }], guard := none }) rfl (fun K hK => ?_) AllReadyH.nil
    go_simp
    refine (rspread_goal (v := j) (HSL7.out.gr (by (repeat (first | (with_reducible exact Gr.refl _) | (with_reducible assumption) | (with_reducible refine Gr.alloc ?_ _) | (with_reducible refine Gr.drew ?_) | (with_reducible refine Gr.set ?_ (by dsimp only; omega) _) | (with_reducible refine Gr.trans ?_ (by with_reducible assumption)))); first | done | fail)) HTB.out b3 ho (by (repeat (first | (with_reducible exact Gr.refl _) | (with_reducible assumption) | (with_reducible refine Gr.alloc ?_ _) | (with_reducible refine Gr.drew ?_) | (with_reducible refine Gr.set ?_ (by dsimp only; omega) _) | (with_reducible refine Gr.trans ?_ (by with_reducible assumption)))); first | done | fail)).mono ?_; rintro e w5 ⟨⟨g5, c5, F, rfl, hge, hfar, hsp⟩, hg5⟩
    go_wp2_with fail
    refine Shut.out hK _ _ ?_ (fun hHeld => ?_)
    · refine keep5 ⟨d1, d2, t1, t2, t3⟩ ?_; exact (by (repeat (first | (with_reducible exact Gr.refl _) | (with_reducible assumption) | (with_reducible refine Gr.alloc ?_ _) | (with_reducible refine Gr.drew ?_) | (with_reducible refine Gr.set ?_ (by dsimp only; omega) _) | (with_reducible refine Gr.trans ?_ (by with_reducible assumption)))); first | done | fail)
    clear hK K
    try simp only [Act.put, List.setIfInBounds_toArray, List.set_cons_zero, List.set_cons_succ]
    refine wpAnyH_ready (rs := [15]) (by kernel_rfl) (by simp) ?_
    refine AllReadyH.cons (o := { dst := some 56, op := Op.call { callee := Callee.value (Operand.func 48), args := #[Operand.tmp 52, Operand.tmp 54, Operand.tmp 55], argTypes := #[3, 3, 3] }, type := 3, pos := "ref.go:156", after := #[{ on := 11, ground := Ground.data }, { on := 13, ground := Ground.data }, { on := 14, ground := Ground.data }, { on := 9, ground := Ground.chain }], guard := none }) rfl (fun K hK => ?_) AllReadyH.nil
    go_simp
    refine (HL1.out _).mono ?_; rintro e w4 ⟨rfl, hd4⟩; have hg4 := hd4.gr; have hfc4 := cell_gr (hfar.cell a3) hg4
    go_wp2_with fail
    refine Shut.out hK _ _ ?_ (fun hHeld => ?_)
    · refine keep5 ⟨d1, d2, t1, t2, t3⟩ ?_; exact (by (repeat (first | (with_reducible exact Gr.refl _) | (with_reducible assumption) | (with_reducible refine Gr.alloc ?_ _) | (with_reducible refine Gr.drew ?_) | (with_reducible refine Gr.set ?_ (by dsimp only; omega) _) | (with_reducible refine Gr.trans ?_ (by with_reducible assumption)))); first | done | fail)
    clear hK K
    try simp only [Act.put, List.setIfInBounds_toArray, List.set_cons_zero, List.set_cons_succ]
    refine wpAnyH_take (i := 16) (oi := { dst := some 57, op := Op.indexAddr 31 (Operand.tmp 50) (Operand.tmp 56), type := 0, pos := "ref.go:156", after := #[{ on := 9, ground := Ground.data }, { on := 15, ground := Ground.data }], guard := none }) (v := ?_) rfl (by kernel_rfl) (by kernel_rfl) (by kernel_rfl) (fun _ _ _ h => h) (Or.inl ⟨by rfl, ?_⟩) (by assumption) ?_
    rotate_left
    · intro w hSw
      try dsimp only at hSw
      go_simp
      try with_reducible rfl
    try simp only [Act.put, List.setIfInBounds_toArray, List.set_cons_zero, List.set_cons_succ]
    refine wpAnyH_ready (rs := [17]) (by kernel_rfl) (by simp) ?_
    refine AllReadyH.cons (o := { dst := some 58, op := Op.load 3 (Operand.tmp 57), type := 3, pos := "ref.go:156", after := #[{ on := 16, ground := Ground.data }], guard := none }) rfl (fun K hK => ?_) AllReadyH.nil
    go_simp
    refine Shut.out hK _ _ ?_ (fun hHeld => ?_)
    · refine keep5 ⟨d1, d2, t1, t2, t3⟩ ?_; exact (by (repeat (first | (with_reducible exact Gr.refl _) | (with_reducible assumption) | (with_reducible refine Gr.alloc ?_ _) | (with_reducible refine Gr.drew ?_) | (with_reducible refine Gr.set ?_ (by dsimp only; omega) _) | (with_reducible refine Gr.trans ?_ (by with_reducible assumption)))); first | done | fail)
    clear hK K
    try simp only [Act.put, List.setIfInBounds_toArray, List.set_cons_zero, List.set_cons_succ]
    refine wpAnyH_take (i := 18) (oi := { dst := some 6, op := Op.assign (Operand.tmp 58), type := 3, pos := "ref.go:156", after := #[{ on := 17, ground := Ground.data }, { on := 15, ground := Ground.chain }, { on := 0, ground := Ground.phase }, { on := 1, ground := Ground.phase }, { on := 2, ground := Ground.phase }, { on := 3, ground := Ground.phase }, { on := 4, ground := Ground.phase }, { on := 5, ground := Ground.phase }, { on := 6, ground := Ground.phase }, { on := 7, ground := Ground.phase }, { on := 8, ground := Ground.phase }, { on := 9, ground := Ground.phase }, { on := 10, ground := Ground.phase }, { on := 11, ground := Ground.phase }, { on := 12, ground := Ground.phase }, { on := 13, ground := Ground.phase }, { on := 14, ground := Ground.phase }, { on := 15, ground := Ground.phase }, { on := 16, ground := Ground.phase }, { on := 17, ground := Ground.phase }], guard := none }) (v := ?_) rfl (by kernel_rfl) (by kernel_rfl) (by kernel_rfl) (fun _ _ _ h => h) (Or.inl ⟨by rfl, ?_⟩) (by assumption) ?_
    rotate_left
    · intro w hSw
      try dsimp only at hSw
      go_simp
      try with_reducible rfl
    try simp only [Act.put, List.setIfInBounds_toArray, List.set_cons_zero, List.set_cons_succ]
    have hgf : Gr wc w4 := (by (repeat (first | (with_reducible exact Gr.refl _) | (with_reducible assumption) | (with_reducible refine Gr.alloc ?_ _) | (with_reducible refine Gr.drew ?_) | (with_reducible refine Gr.set ?_ (by dsimp only; omega) _) | (with_reducible refine Gr.trans ?_ (by with_reducible assumption)))); first | done | fail)
    have HE := hide (HD.out F hsp)
    refine wpAnyH_done (by kernel_rfl) ?_ _
    go_wp2_with fail
    go_ret
    exact ⟨ret_int HE.out.symm, hgw.trans hgf⟩
theorem rdist_any (W H : Int) (a : Option Addr) (n cap : Nat) (f : Nat → Int) (x y : Int) (w : World) (h : Sl w a n f) (hm : mayM W H n f = true) :
    Calls Tryz.prog 19 #[.agg #[.int .i64 W, .int .i64 H, .slice a n cap], .int .i64 x, .int .i64 y] w fun e w' => e = .returned (.int .i64 (distF W H n f x y)) ∧ Gr w w' := by
  by_cases hk : nodB W H n f x = true ∧ nodB W H n f y = true ∧ sectorF W x = sectorF W y
  · exact rdist_yes W H a n cap f x y w h hm hk.1 hk.2.1 hk.2.2
  · rw [dist_not hk]
    refine rdist_no W H a n cap f x y w h ?_
    cases q : nodB W H n f x
    · exact .inl rfl
    · cases q2 : nodB W H n f y
      · exact .inr (.inl rfl)
      · exact .inr (.inr fun e => hk ⟨q, q2, e⟩)
end Go.Proofs.YtgbadbkipaccgaaGreat
