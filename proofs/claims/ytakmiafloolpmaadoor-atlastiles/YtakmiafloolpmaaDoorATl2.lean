/- Rows of tiles: of a map of numbers; copied; with a tile turned. No condition. -/
import Derived.Test.YtakmiafloolpmaaDoorAJoin
import Derived.Test.YtakmiafloolpmaaDoorABack
namespace Go.Proofs.YtakmiafloolpmaaDoor
open Go.RowKit
set_option maxRecDepth 20000

theorem tilesF_len (W H : Int) (f : Nat → Int) (s : Nat) : (tilesF W H f s).length = s := by simp [tilesF]
theorem mayTB_congr {W H : Int} {n : Nat} {f g : Nat → Int} (h : ∀ i, i < n → f i = g i) : mayTB W H n f = mayTB W H n g := by
  rw [Bool.eq_iff_iff, mayTB_iff, mayTB_iff]
  constructor
  · rintro ⟨h1, h2, h3, h4⟩
    exact ⟨h1, h2, h3, fun i hi => by rw [← h i hi]; exact h4 i hi⟩
  · rintro ⟨h1, h2, h3, h4⟩
    exact ⟨h1, h2, h3, fun i hi => by rw [h i hi]; exact h4 i hi⟩
/-- a map's tiles cover it -/
theorem cover_tiles {W H : Int} {N : Nat} {F : Nat → Int} {g c : Nat → Nat} (hm : mayM W H N F = true) : coverB W H (cntS W H) (tiF W H (tilesF W H F (cntS W H)) g c) = true := by
  refine (cover_iff _ _ _ _).2 ⟨rfl, fun s hs => (fitT_iff _ _ _ _).2 ⟨?_, rfl, rfl⟩⟩
  show mayTB (twF W s) (thF W H s) (tnF W H s) (at0 ((tilesF W H F (cntS W H)).getD s [])) = true
  rw [tilesF_get hs, mayTB_congr (fun i hi => at0_lst hi)]
  exact tile_may hm (sec_of hs)
/-- a copy of a row of tiles -/
theorem Tls.copy {u w1 : World} {base base2 : Nat} {v v' : Value} {W H : Int} {ts : List (List Int)} {g c : Nat → Nat} (h : Tls u base v W H ts g c) (hn : 1 ≤ ts.length) (hg : Gr u w1) (ho : w1.ownsRow base2 31 3 v' (0 + ts.length) ([] ++ tcs W H g c ts.length)) : Tls w1 base2 v' W H ts g c := by
  rw [Nat.zero_add, List.nil_append] at ho
  exact ⟨ho, fun e => by omega, (h.gr hg).sl⟩
theorem tcs_news {u w1 : World} {b cap n : Nat} {base : Nat} {W H : Int} {g c : Nat → Nat} (h : u.ownsRow base 31 3 (.slice (some ⟨b, 0, none⟩) n cap) n (tcs W H g c n)) (hg : Gr u w1) : ∀ j v, (tcs W H g c n)[j]? = some v → w1.cell? ((⟨b, 0, none⟩ : Addr).add j) = some v := by
  intro j v hj
  have hjn : j < n * 3 := by
    have := (List.getElem?_eq_some_iff.1 hj).1
    rw [tcs_len] at this
    exact this
  have e : (⟨b, 0, none⟩ : Addr).add j = ⟨b, j, none⟩ := by unfold Addr.add; split <;> simp_all
  rw [e]
  refine cell_gr ?_ hg
  rw [World.ownsRow.cellAt h j hjn]
  exact hj
/-- one tile turned -/
def updT (t : Nat → Ti) (i : Nat) (x : Ti) : Nat → Ti := fun j => if j = i then x else t j
theorem TSl.turn {w : World} {b n i : Nat} {t : Nat → Ti} {x : Ti} (h : TSl w (some ⟨b, 0, none⟩) n t) (hi : i < n) (hx : ∃ g, x.a = some ⟨g, 0, none⟩ ∧ g ≠ b ∧ Sl w (some ⟨g, 0, none⟩) x.n x.f ∧ x.n ≤ x.c ∧ x.c ≤ maxLen) (ht : ∀ j, j < n → ∃ g, (t j).a = some ⟨g, 0, none⟩ ∧ g ≠ b) :
    TSl (((w.setCell ⟨b, i * 3, none⟩ (.int .i64 x.W)).setCell ⟨b, i * 3 + 1, none⟩ (.int .i64 x.H)).setCell ⟨b, i * 3 + 2, none⟩ (.slice x.a x.n x.c)) (some ⟨b, 0, none⟩) n (updT t i x) := by
  obtain ⟨b', o', e, hb, hc⟩ : ∃ b' o', some (⟨b, 0, none⟩ : Addr) = some ⟨b', o', none⟩ ∧ b' < w.heap.size ∧ ∀ i, i < n → w.cell? ⟨b', o' + i * 3, none⟩ = some (.int .i64 (t i).W) ∧ w.cell? ⟨b', o' + i * 3 + 1, none⟩ = some (.int .i64 (t i).H) ∧ w.cell? ⟨b', o' + i * 3 + 2, none⟩ = some (.slice (t i).a (t i).n (t i).c) := by
    rcases h.has with h0 | h1
    · omega
    · exact h1
  cases e
  simp only [Nat.zero_add] at hc
  refine ⟨fun j hj => ?_, .inr ⟨b, 0, rfl, by simp [go_sem]; exact hb, fun j hj => ?_⟩⟩
  · unfold updT
    by_cases e : j = i
    · obtain ⟨g, e1, e2, e3, e4, e5⟩ := hx
      rw [if_pos e, e1]
      exact ⟨((e3.setF (p := ⟨b, i * 3, none⟩) e2).setF (p := ⟨b, i * 3 + 1, none⟩) e2).setF (p := ⟨b, i * 3 + 2, none⟩) e2, e4, e5⟩
    · rw [if_neg e]
      obtain ⟨g, e1, e2⟩ := ht j hj
      obtain ⟨q1, q2, q3⟩ := h.sl j hj
      rw [e1] at q1 ⊢
      exact ⟨((q1.setF (p := ⟨b, i * 3, none⟩) e2).setF (p := ⟨b, i * 3 + 1, none⟩) e2).setF (p := ⟨b, i * 3 + 2, none⟩) e2, q2, q3⟩
  · obtain ⟨k1, k2, k3⟩ := hc j hj
    obtain ⟨l1, l2, l3⟩ := hc i hi
    simp only [Nat.zero_add]
    unfold updT
    by_cases e : j = i
    · subst e
      rw [if_pos rfl]
      refine ⟨?_, ?_, ?_⟩
      · rw [World.cell?_setCell_other _ _ _ _ (by simp), World.cell?_setCell_other _ _ _ _ (by simp)]
        exact World.cell?_setCell_same _ _ _ l1
      · rw [World.cell?_setCell_other _ _ _ _ (by simp)]
        exact World.cell?_setCell_same _ _ _ (by rw [World.cell?_setCell_other _ _ _ _ (by simp)]; exact l2)
      · exact World.cell?_setCell_same _ _ _ (by rw [World.cell?_setCell_other _ _ _ _ (by simp), World.cell?_setCell_other _ _ _ _ (by simp)]; exact l3)
    · rw [if_neg e]
      refine ⟨?_, ?_, ?_⟩
      · rw [World.cell?_setCell_other _ _ _ _ (by intro e2; have := congrArg Addr.off e2; simp only at this; omega), World.cell?_setCell_other _ _ _ _ (by intro e2; have := congrArg Addr.off e2; simp only at this; omega), World.cell?_setCell_other _ _ _ _ (by intro e2; have := congrArg Addr.off e2; simp only at this; omega)]; exact k1
      · rw [World.cell?_setCell_other _ _ _ _ (by intro e2; have := congrArg Addr.off e2; simp only at this; omega), World.cell?_setCell_other _ _ _ _ (by intro e2; have := congrArg Addr.off e2; simp only at this; omega), World.cell?_setCell_other _ _ _ _ (by intro e2; have := congrArg Addr.off e2; simp only at this; omega)]; exact k2
      · rw [World.cell?_setCell_other _ _ _ _ (by intro e2; have := congrArg Addr.off e2; simp only at this; omega), World.cell?_setCell_other _ _ _ _ (by intro e2; have := congrArg Addr.off e2; simp only at this; omega), World.cell?_setCell_other _ _ _ _ (by intro e2; have := congrArg Addr.off e2; simp only at this; omega)]; exact k3
/-- a byte of one tile turned -/
theorem TSl.byte {u : World} {b n i g9 q : Nat} {t : Nat → Ti} {v : Value} {f' : Nat → Int} (h : TSl u (some ⟨b, 0, none⟩) n t) (hi : i < n) (hb : b ≠ g9) (ht : ∀ j, j < n → j ≠ i → ∃ g, (t j).a = some ⟨g, 0, none⟩ ∧ g ≠ g9) (hs : Sl (u.setCell ⟨g9, q, none⟩ v) (t i).a (t i).n f') :
    TSl (u.setCell ⟨g9, q, none⟩ v) (some ⟨b, 0, none⟩) n (updT t i ⟨(t i).W, (t i).H, (t i).a, (t i).n, (t i).c, f'⟩) := by
  refine ⟨fun j hj => ?_, ?_⟩
  · unfold updT
    by_cases e : j = i
    · rw [if_pos e]
      obtain ⟨-, q2, q3⟩ := h.sl i hi
      exact ⟨hs, q2, q3⟩
    · rw [if_neg e]
      obtain ⟨g, e1, e2⟩ := ht j hj e
      obtain ⟨q1, q2, q3⟩ := h.sl j hj
      rw [e1] at q1 ⊢
      exact ⟨q1.setF (p := ⟨g9, q, none⟩) e2, q2, q3⟩
  · rcases h.has with h0 | ⟨b', o', e, hb', hc⟩
    · exact .inl h0
    · cases e
      refine .inr ⟨b, 0, rfl, by simp [go_sem]; exact hb', fun j hj => ?_⟩
      obtain ⟨k1, k2, k3⟩ := hc j hj
      have hne : g9 ≠ b := fun e => hb e.symm
      have key : (updT t i ⟨(t i).W, (t i).H, (t i).a, (t i).n, (t i).c, f'⟩ j).W = (t j).W ∧ (updT t i ⟨(t i).W, (t i).H, (t i).a, (t i).n, (t i).c, f'⟩ j).H = (t j).H ∧ (updT t i ⟨(t i).W, (t i).H, (t i).a, (t i).n, (t i).c, f'⟩ j).a = (t j).a ∧ (updT t i ⟨(t i).W, (t i).H, (t i).a, (t i).n, (t i).c, f'⟩ j).n = (t j).n ∧ (updT t i ⟨(t i).W, (t i).H, (t i).a, (t i).n, (t i).c, f'⟩ j).c = (t j).c := by
        unfold updT
        split
        · rename_i e; subst e; exact ⟨rfl, rfl, rfl, rfl, rfl⟩
        · exact ⟨rfl, rfl, rfl, rfl, rfl⟩
      obtain ⟨a1, a2, a3, a4, a5⟩ := key
      rw [a1, a2, a3, a4, a5]
      exact ⟨by rw [World.cell?_setCell_far _ _ _ _ hne]; exact k1, by rw [World.cell?_setCell_far _ _ _ _ hne]; exact k2, by rw [World.cell?_setCell_far _ _ _ _ hne]; exact k3⟩
theorem keepT {w u : World} {lb bb o : Nat} {v0 v1 x y z : Value} (h : u.cell? ⟨lb, o, none⟩ = some v0 ∧ u.cell? ⟨lb, o + 1, none⟩ = some v1 ∧ Gr w u) (hb : lb ≠ bb) (hg : w.heap.size ≤ bb) :
    (((u.setCell ⟨bb, o, none⟩ x).setCell ⟨bb, o + 1, none⟩ y).setCell ⟨bb, o + 2, none⟩ z).cell? ⟨lb, o, none⟩ = some v0 ∧ (((u.setCell ⟨bb, o, none⟩ x).setCell ⟨bb, o + 1, none⟩ y).setCell ⟨bb, o + 2, none⟩ z).cell? ⟨lb, o + 1, none⟩ = some v1 ∧ Gr w (((u.setCell ⟨bb, o, none⟩ x).setCell ⟨bb, o + 1, none⟩ y).setCell ⟨bb, o + 2, none⟩ z) := by
  have hn : bb ≠ lb := fun e => hb e.symm
  refine ⟨?_, ?_, ((h.2.2.set (p := ⟨bb, o, none⟩) hg _).set (p := ⟨bb, o + 1, none⟩) hg _).set (p := ⟨bb, o + 2, none⟩) hg _⟩
  · rw [World.cell?_setCell_far _ _ _ _ hn, World.cell?_setCell_far _ _ _ _ hn, World.cell?_setCell_far _ _ _ _ hn]; exact h.1
  · rw [World.cell?_setCell_far _ _ _ _ hn, World.cell?_setCell_far _ _ _ _ hn, World.cell?_setCell_far _ _ _ _ hn]; exact h.2.1
theorem keepTd {w u : World} {lb bb o : Nat} {v0 v1 x y z : Value} (h : u.cell? ⟨lb, o, none⟩ = some v0 ∧ u.cell? ⟨lb, o + 1, none⟩ = some v1 ∧ Gr w u) (hb : lb ≠ bb) (hg : w.heap.size ≤ bb) :
    (((u.setCell ⟨bb, o, none⟩ x).setCell ⟨bb, o + 1, none⟩ y).setCell ⟨bb, o + 2, none⟩ z).drew.cell? ⟨lb, o, none⟩ = some v0 ∧ (((u.setCell ⟨bb, o, none⟩ x).setCell ⟨bb, o + 1, none⟩ y).setCell ⟨bb, o + 2, none⟩ z).drew.cell? ⟨lb, o + 1, none⟩ = some v1 ∧ Gr w (((u.setCell ⟨bb, o, none⟩ x).setCell ⟨bb, o + 1, none⟩ y).setCell ⟨bb, o + 2, none⟩ z).drew := by
  obtain ⟨a1, a2, a3⟩ := keepT (x := x) (y := y) (z := z) h hb hg
  exact ⟨cell_gr a1 (Gr.refl _).drew, cell_gr a2 (Gr.refl _).drew, a3.drew⟩
theorem keepTa {w u : World} {lb bb o : Nat} {v0 v1 x y z : Value} {c : Obj} (h : u.cell? ⟨lb, o, none⟩ = some v0 ∧ u.cell? ⟨lb, o + 1, none⟩ = some v1 ∧ Gr w u) (hb : lb ≠ bb) (hg : w.heap.size ≤ bb) :
    ((((u.setCell ⟨bb, o, none⟩ x).setCell ⟨bb, o + 1, none⟩ y).setCell ⟨bb, o + 2, none⟩ z).alloc c).drew.cell? ⟨lb, o, none⟩ = some v0 ∧ ((((u.setCell ⟨bb, o, none⟩ x).setCell ⟨bb, o + 1, none⟩ y).setCell ⟨bb, o + 2, none⟩ z).alloc c).drew.cell? ⟨lb, o + 1, none⟩ = some v1 ∧ Gr w ((((u.setCell ⟨bb, o, none⟩ x).setCell ⟨bb, o + 1, none⟩ y).setCell ⟨bb, o + 2, none⟩ z).alloc c).drew := by
  obtain ⟨a1, a2, a3⟩ := keepT (x := x) (y := y) (z := z) h hb hg
  exact ⟨cell_gr a1 ((Gr.refl _).alloc _).drew, cell_gr a2 ((Gr.refl _).alloc _).drew, (a3.alloc _).drew⟩
/-- a tile turned to one whose costs are made behind it -/
theorem TSl.turnA {w : World} {b n i M : Nat} {t : Nat → Ti} {xW xH : Int} (h : TSl w (some ⟨b, 0, none⟩) n t) (hi : i < n) (hb : b < w.heap.size) (hM : M ≤ maxLen) (ht : ∀ j, j < n → ∃ g, (t j).a = some ⟨g, 0, none⟩ ∧ g ≠ b) :
    TSl ((((w.setCell ⟨b, i * 3, none⟩ (.int .i64 xW)).setCell ⟨b, i * 3 + 1, none⟩ (.int .i64 xH)).setCell ⟨b, i * 3 + 2, none⟩ (.slice (some ⟨w.heap.size, 0, none⟩) M M)).alloc (.cells (madeCells #[.int .u8 0] M) 5)).drew (some ⟨b, 0, none⟩) n (updT t i ⟨xW, xH, some ⟨w.heap.size, 0, none⟩, M, M, fun _ => 0⟩) := by
  obtain ⟨b', o', e, -, hc⟩ : ∃ b' o', some (⟨b, 0, none⟩ : Addr) = some ⟨b', o', none⟩ ∧ b' < w.heap.size ∧ ∀ i, i < n → w.cell? ⟨b', o' + i * 3, none⟩ = some (.int .i64 (t i).W) ∧ w.cell? ⟨b', o' + i * 3 + 1, none⟩ = some (.int .i64 (t i).H) ∧ w.cell? ⟨b', o' + i * 3 + 2, none⟩ = some (.slice (t i).a (t i).n (t i).c) := by
    rcases h.has with h0 | h1
    · omega
    · exact h1
  cases e
  have hz : (((w.setCell ⟨b, i * 3, none⟩ (.int .i64 xW)).setCell ⟨b, i * 3 + 1, none⟩ (.int .i64 xH)).setCell ⟨b, i * 3 + 2, none⟩ (.slice (some ⟨w.heap.size, 0, none⟩) M M)).heap.size = w.heap.size := by simp [go_sem]
  have hrow := Row.made (((w.setCell ⟨b, i * 3, none⟩ (.int .i64 xW)).setCell ⟨b, i * 3 + 1, none⟩ (.int .i64 xH)).setCell ⟨b, i * 3 + 2, none⟩ (.slice (some ⟨w.heap.size, 0, none⟩) M M)) M
  rw [hz] at hrow
  have hsl0 := (hrow.sl (fun _ _ => by omega)).gr (Gr.refl _).drew
  have ga := ((Gr.refl (((w.setCell ⟨b, i * 3, none⟩ (.int .i64 xW)).setCell ⟨b, i * 3 + 1, none⟩ (.int .i64 xH)).setCell ⟨b, i * 3 + 2, none⟩ (.slice (some ⟨w.heap.size, 0, none⟩) M M))).alloc (.cells (madeCells #[.int .u8 0] M) 5)).drew
  simp only [Nat.zero_add] at hc
  refine ⟨fun j hj => ?_, .inr ⟨b, 0, rfl, Nat.lt_of_lt_of_le (by rw [hz]; exact hb) ga.size, fun j hj => ?_⟩⟩
  · unfold updT
    by_cases e : j = i
    · rw [if_pos e]
      exact ⟨hsl0, Nat.le_refl _, hM⟩
    · rw [if_neg e]
      obtain ⟨g, e1, e2⟩ := ht j hj
      obtain ⟨q1, q2, q3⟩ := h.sl j hj
      rw [e1] at q1 ⊢
      exact ⟨(((q1.setF (p := ⟨b, i * 3, none⟩) e2).setF (p := ⟨b, i * 3 + 1, none⟩) e2).setF (p := ⟨b, i * 3 + 2, none⟩) e2).gr ga, q2, q3⟩
  · obtain ⟨k1, k2, k3⟩ := hc j hj
    obtain ⟨l1, l2, l3⟩ := hc i hi
    simp only [Nat.zero_add]
    unfold updT
    by_cases e : j = i
    · subst e
      rw [if_pos rfl]
      refine ⟨cell_gr ?_ ga, cell_gr ?_ ga, cell_gr ?_ ga⟩
      · rw [World.cell?_setCell_other _ _ _ _ (by simp), World.cell?_setCell_other _ _ _ _ (by simp)]
        exact World.cell?_setCell_same _ _ _ l1
      · rw [World.cell?_setCell_other _ _ _ _ (by simp)]
        exact World.cell?_setCell_same _ _ _ (by rw [World.cell?_setCell_other _ _ _ _ (by simp)]; exact l2)
      · exact World.cell?_setCell_same _ _ _ (by rw [World.cell?_setCell_other _ _ _ _ (by simp), World.cell?_setCell_other _ _ _ _ (by simp)]; exact l3)
    · rw [if_neg e]
      refine ⟨cell_gr ?_ ga, cell_gr ?_ ga, cell_gr ?_ ga⟩
      · rw [World.cell?_setCell_other _ _ _ _ (by intro e2; have := congrArg Addr.off e2; simp only at this; omega), World.cell?_setCell_other _ _ _ _ (by intro e2; have := congrArg Addr.off e2; simp only at this; omega), World.cell?_setCell_other _ _ _ _ (by intro e2; have := congrArg Addr.off e2; simp only at this; omega)]; exact k1
      · rw [World.cell?_setCell_other _ _ _ _ (by intro e2; have := congrArg Addr.off e2; simp only at this; omega), World.cell?_setCell_other _ _ _ _ (by intro e2; have := congrArg Addr.off e2; simp only at this; omega), World.cell?_setCell_other _ _ _ _ (by intro e2; have := congrArg Addr.off e2; simp only at this; omega)]; exact k2
      · rw [World.cell?_setCell_other _ _ _ _ (by intro e2; have := congrArg Addr.off e2; simp only at this; omega), World.cell?_setCell_other _ _ _ _ (by intro e2; have := congrArg Addr.off e2; simp only at this; omega), World.cell?_setCell_other _ _ _ _ (by intro e2; have := congrArg Addr.off e2; simp only at this; omega)]; exact k3
theorem Row.atT {w : World} {g N q : Nat} {F : Nat → Int} (h : Row w g N F) (hq : q < N) : w.cell? ⟨g, q, none⟩ = some (.int .u8 (F q)) ∧ w.frozen? ⟨g, q, none⟩ = false := by
  unfold Row at h
  exact ⟨by simp [World.cell?, h, cel_get _ _ _ hq], by simp [World.frozen?, h]⟩
theorem updT_at (t : Nat → Ti) (i : Nat) (x : Ti) : updT t i x i = x := by simp [updT]
theorem updT_ne {t : Nat → Ti} {i j : Nat} {x : Ti} (h : j ≠ i) : updT t i x j = t j := by simp [updT, h]
/-- fewer tiles -/
theorem TSl.take {w : World} {a : Option Addr} {n m : Nat} {t : Nat → Ti} (h : TSl w a n t) (hm : m ≤ n) : TSl w a m t := by
  refine ⟨fun i hi => h.sl i (by omega), ?_⟩
  rcases h.has with h0 | ⟨b, o, rfl, hb, hc⟩
  · exact .inl (by omega)
  · exact .inr ⟨b, o, rfl, hb, fun i hi => hc i (by omega)⟩
theorem TSl.congr {w : World} {a : Option Addr} {n : Nat} {t t' : Nat → Ti} (h : TSl w a n t) (e : ∀ i, i < n → t i = t' i) : TSl w a n t' := by
  refine ⟨fun i hi => by rw [← e i hi]; exact h.sl i hi, ?_⟩
  rcases h.has with h0 | ⟨b, o, rfl, hb, hc⟩
  · exact .inl h0
  · exact .inr ⟨b, o, rfl, hb, fun i hi => by rw [← e i hi]; exact hc i hi⟩
/-- one tile more behind a row of tiles -/
theorem plus_tsl {w6 w7 : World} {base b cap n : Nat} {v' : Value} {W H : Int} {ts : List (List Int)} {g c : Nat → Nat} (h : Tls w6 base (.slice (some ⟨b, 0, none⟩) n cap) W H ts g c) (hn : ts.length = n) (hn1 : 1 ≤ n) {u : World} (hu : Gr w6 u) (ho : w7.ownsRow base 31 3 v' (n + 1) (tcs W H g c n ++ [.int .i64 (twF W 0), .int .i64 (thF W H 0), .slice (some ⟨g 0, 0, none⟩) (tnF W H 0) (c 0)])) (hg : u.grownBy w7 (Value.slice (some ⟨b, 0, none⟩) n cap).ownBlock) {w0 : World} (h0 : Gr w0 u) (hb : w0.heap.size ≤ base) :
    ∃ b' cap', v' = .slice (some ⟨b', 0, none⟩) (n + 1) cap' ∧ TSl w7 (some ⟨b', 0, none⟩) (n + 1) (fun i => if i < n then tiF W H ts g c i else tiF W H ts g c 0) ∧ Gr w0 w7 := by
  have hsl : ∀ j, j < n → Sl w7 (some ⟨g j, 0, none⟩) (tnF W H j) (at0 (ts.getD j [])) ∧ tnF W H j ≤ c j ∧ c j ≤ maxLen := fun j hj => by
    obtain ⟨q1, q2, q3, q4⟩ := (h.gr hu).sl j (by omega)
    exact ⟨sl_grown q1 q2 hg ((h.gr hu).apart q1 q2), q3, q4⟩
  rcases ho.2 with ⟨_, e0⟩ | ⟨b', cap', cur, rfl, hb', hh, _⟩
  · omega
  refine ⟨b', cap', rfl, ⟨fun i hi => ?_, .inr ⟨b', 0, rfl, (Array.getElem?_eq_some_iff.1 hh).1, fun i hi => ?_⟩⟩, ?_⟩
  · by_cases e : i < n
    · simp only [if_pos e]
      exact hsl i e
    · simp only [if_neg e]
      exact hsl 0 hn1
  · have c0 := World.ownsRow.cellAt ho (i * 3 + 0) (by omega)
    have c1 := World.ownsRow.cellAt ho (i * 3 + 1) (by omega)
    have c2 := World.ownsRow.cellAt ho (i * 3 + 2) (by omega)
    rw [Nat.zero_add]
    by_cases e : i < n
    · simp only [if_pos e]
      rw [List.getElem?_append_left (by rw [tcs_len]; omega), tcs_get e (by omega)] at c0 c1 c2
      exact ⟨c0, c1, c2⟩
    · simp only [if_neg e]
      have ei : i = n := by omega
      subst ei
      rw [List.getElem?_append_right (by rw [tcs_len]; omega), tcs_len, Nat.add_sub_cancel_left] at c0 c1 c2
      exact ⟨c0, c1, c2⟩
  · refine Gr.grown h0 hg (fun k hk => ?_)
    have := (h.own.lt k hk).1
    omega
/-- the tiles' blocks are none of the row's -/
theorem Tls.blocks {w : World} {base b cap : Nat} {W H : Int} {ts : List (List Int)} {g c : Nat → Nat} (h : Tls w base (.slice (some ⟨b, 0, none⟩) ts.length cap) W H ts g c) : ∀ j, j < ts.length → g j ≠ b := fun j hj => by
  obtain ⟨q1, q2, -, -⟩ := h.sl j hj
  exact h.apart q1 q2 b rfl

end Go.Proofs.YtakmiafloolpmaaDoor
