/- TileSame's walk: it answers true at every input; nothing that was there is written. -/
import Derived.Test.YtafghafdapiadaaTNear
import Derived.Deep.CutRange
import Derived.OpenShut
namespace Go.Proofs.Ytafghafdapiadaa
open Go.RowKit

theorem sameTB_symm (W H : Int) (n : Nat) (f : Nat → Int) (W' H' : Int) (m : Nat) (g : Nat → Int) : sameTB W' H' m g W H n f = sameTB W H n f W' H' m g := by
  unfold sameTB sameB
  have e1 : decide (W' = W) = decide (W = W') := by rw [decide_eq_decide]; exact eq_comm
  have e2 : decide (H' = H) = decide (H = H') := by rw [decide_eq_decide]; exact eq_comm
  have e3 : decide (m = n ∧ ∀ i, i < m → g i = f i) = decide (n = m ∧ ∀ i, i < n → f i = g i) := by
    rw [decide_eq_decide]
    constructor
    · rintro ⟨rfl, h⟩; exact ⟨rfl, fun i hi => (h i hi).symm⟩
    · rintro ⟨rfl, h⟩; exact ⟨rfl, fun i hi => (h i hi).symm⟩
  rw [e1, e2, e3]
theorem sameTB_self (W H : Int) (n : Nat) (f : Nat → Int) : sameTB W H n f W H n f = true := by simp [sameTB, sameB]

theorem Gr.old2 {w w' : World} (h : Gr w w') : (∀ b o, b < w.heap.size → w'.cell? ⟨b, o, none⟩ = w.cell? ⟨b, o, none⟩) ∧ (∀ b o, b < w.heap.size → w'.frozen? ⟨b, o, none⟩ = w.frozen? ⟨b, o, none⟩) ∧ ∀ b, b < w.heap.size → b < w'.heap.size :=
  ⟨h.cell, h.frozen, fun _ hb => Nat.lt_of_lt_of_le hb h.size⟩
theorem Sl.setO {w : World} {g n : Nat} {f : Nat → Int} {p : Addr} {v : Value} (h : Sl w (some ⟨g, 0, none⟩) n f) (hp : g ≠ p.block) : Sl (w.setCell p v) (some ⟨g, 0, none⟩) n f := by
  refine ⟨h.byte, ?_⟩
  rcases h.has with h0 | ⟨b, o, e, hb, hc⟩
  · exact .inl h0
  · cases e
    refine .inr ⟨_, _, rfl, by simpa [World.setCell] using hb, fun i hi => ?_⟩
    rw [World.cell?_of_block (w := w) (Below.heap_setCell w p v g hp)]
    exact hc i hi
theorem Sl.allocO {w : World} {a : Option Addr} {n : Nat} {f : Nat → Int} {o : Obj} (h : Sl w a n f) : Sl (w.alloc o) a n f := h.gr ((Gr.refl _).alloc _)
theorem set3 {w : World} {b : Nat} {x0 x1 x2 v0 v1 v2 : Value} (h0 : w.cell? ⟨b, 0, none⟩ = some x0) (h1 : w.cell? ⟨b, 1, none⟩ = some x1) (h2 : w.cell? ⟨b, 2, none⟩ = some x2) :
    (((w.setCell ⟨b, 0, none⟩ v0).setCell ⟨b, 1, none⟩ v1).setCell ⟨b, 2, none⟩ v2).cell? ⟨b, 0, none⟩ = some v0 ∧ (((w.setCell ⟨b, 0, none⟩ v0).setCell ⟨b, 1, none⟩ v1).setCell ⟨b, 2, none⟩ v2).cell? ⟨b, 1, none⟩ = some v1 ∧
      (((w.setCell ⟨b, 0, none⟩ v0).setCell ⟨b, 1, none⟩ v1).setCell ⟨b, 2, none⟩ v2).cell? ⟨b, 2, none⟩ = some v2 ∧
      ∀ c o, c ≠ b → (((w.setCell ⟨b, 0, none⟩ v0).setCell ⟨b, 1, none⟩ v1).setCell ⟨b, 2, none⟩ v2).cell? ⟨c, o, none⟩ = w.cell? ⟨c, o, none⟩ := by
  have n01 : (⟨b, 0, none⟩ : Addr) ≠ ⟨b, 1, none⟩ := by simp
  have n02 : (⟨b, 0, none⟩ : Addr) ≠ ⟨b, 2, none⟩ := by simp
  have n12 : (⟨b, 1, none⟩ : Addr) ≠ ⟨b, 2, none⟩ := by simp
  refine ⟨?_, ?_, ?_, fun c o hc => ?_⟩
  · rw [World.cell?_setCell_other _ _ _ _ n02.symm, World.cell?_setCell_other _ _ _ _ n01.symm]
    exact World.cell?_setCell_same _ _ _ h0
  · rw [World.cell?_setCell_other _ _ _ _ n12.symm]
    exact World.cell?_setCell_same _ _ _ (by rw [World.cell?_setCell_other _ _ _ _ n01]; exact h1)
  · exact World.cell?_setCell_same _ _ _ (by rw [World.cell?_setCell_other _ _ _ _ n12, World.cell?_setCell_other _ _ _ _ n02]; exact h2)
  · rw [World.cell?_setCell_far _ _ _ _ (by exact fun e => hc e.symm), World.cell?_setCell_far _ _ _ _ (by exact fun e => hc e.symm), World.cell?_setCell_far _ _ _ _ (by exact fun e => hc e.symm)]
theorem store1 {w2 : World} {base g n c' : Nat} {f : Nat → Int} (hown : OwnB w2 base g n c' f) {k : Nat} {x : Int} (hx : 0 ≤ x ∧ x ≤ 255) :
    n ≤ c' ∧ c' ≤ maxLen ∧ Sl (w2.setCell ⟨g, k, none⟩ (.int .u8 x)) (some ⟨g, 0, none⟩) n (upd f k x) := by
  have h1 := (hown.own.stored k (.int .u8 x)).1
  rw [cel_set] at h1
  obtain ⟨a, cap, e, q1, q2, q3⟩ := Sl.of_own (f := upd f k x) h1 (fun i hi => by unfold upd; split; exact hx; exact hown.byte i hi)
  simp only [Value.slice.injEq] at e
  obtain ⟨rfl, _, rfl⟩ := e
  exact ⟨q1, q2, q3⟩
theorem keep6 {u0 u : World} {B C : Nat} {v0 v1 v2 v3 v4 v5 : Value} (c1 : u0.cell? ⟨B, 0, none⟩ = some v0) (c2 : u0.cell? ⟨B, 1, none⟩ = some v1) (c3 : u0.cell? ⟨B, 2, none⟩ = some v2) (d1 : u0.cell? ⟨C, 0, none⟩ = some v3) (d2 : u0.cell? ⟨C, 1, none⟩ = some v4) (d3 : u0.cell? ⟨C, 2, none⟩ = some v5) (g : Gr u0 u) :
    u.cell? ⟨B, 0, none⟩ = some v0 ∧ u.cell? ⟨B, 1, none⟩ = some v1 ∧ u.cell? ⟨B, 2, none⟩ = some v2 ∧ u.cell? ⟨C, 0, none⟩ = some v3 ∧ u.cell? ⟨C, 1, none⟩ = some v4 ∧ u.cell? ⟨C, 2, none⟩ = some v5 ∧ Gr u0 u :=
  ⟨cell_gr c1 g, cell_gr c2 g, cell_gr c3 g, cell_gr d1 g, cell_gr d2 g, cell_gr d3 g, g⟩

set_option maxHeartbeats 8000000 in
theorem tileSame_any (W1 H1 W2 H2 : Int) (a b : Option Addr) (n c m d : Nat) (f g : Nat → Int) (at_ by_ : Int) (one : Bool) (w : World) (h : Sl w a n f) (k : Sl w b m g) (ha : a = none → n = 0 ∧ c = 0) (hb : b = none → m = 0 ∧ d = 0) :
    Calls Try.prog 6 #[.agg #[.int .i64 W1, .int .i64 H1, .slice a n c], .agg #[.int .i64 W2, .int .i64 H2, .slice b m d], .int .i64 at_, .int .u8 by_, .bool one] w fun e w' => e = .returned (.bool true) ∧ Gr w w' := by
  by_cases hn : 600 < n
  · go_enter Try.func6, Try.ntmps6
    go_wp2_with (go_at_call 8; refine (told_any _).mono ?_; rintro e w3 ⟨rfl, hg3⟩)
    go_ret
    exact ⟨rfl, (by repeat (first | exact Gr.refl _ | assumption | exact Dr.gr (by assumption) | refine Gr.alloc ?_ _ | refine Gr.drewN ?_ _ | refine Gr.drew ?_ | refine Gr.trans ?_ (by assumption) | refine Gr.trans ?_ (Dr.gr (by assumption))))⟩
  by_cases hm : 600 < m
  · go_enter Try.func6, Try.ntmps6
    go_wp2_with (go_at_call 8; refine (told_any _).mono ?_; rintro e w3 ⟨rfl, hg3⟩)
    go_ret
    exact ⟨rfl, (by repeat (first | exact Gr.refl _ | assumption | exact Dr.gr (by assumption) | refine Gr.alloc ?_ _ | refine Gr.drewN ?_ _ | refine Gr.drew ?_ | refine Gr.trans ?_ (by assumption) | refine Gr.trans ?_ (Dr.gr (by assumption))))⟩
  have hn6 : n ≤ 600 := by omega
  have hm6 : m ≤ 600 := by omega
  go_enter Try.func6, Try.ntmps6
  go_wp2_with fail
  obtain ⟨c1, c2, c3⟩ := tri_at w W1 H1 (.slice a n c)
  obtain ⟨d1, d2, d3⟩ := tri_at (w.alloc (.cells #[.int .i64 W1, .int .i64 H1, .slice a n c] 24)) W2 H2 (.slice b m d)
  have hg1 : Gr (w.alloc (.cells #[.int .i64 W1, .int .i64 H1, .slice a n c] 24)) ((w.alloc (.cells #[.int .i64 W1, .int .i64 H1, .slice a n c] 24)).alloc (.cells #[.int .i64 W2, .int .i64 H2, .slice b m d] 24)) := (by repeat (first | exact Gr.refl _ | assumption | exact Dr.gr (by assumption) | refine Gr.alloc ?_ _ | refine Gr.drewN ?_ _ | refine Gr.drew ?_ | refine Gr.trans ?_ (by assumption) | refine Gr.trans ?_ (Dr.gr (by assumption))))
  have hgw : Gr w ((w.alloc (.cells #[.int .i64 W1, .int .i64 H1, .slice a n c] 24)).alloc (.cells #[.int .i64 W2, .int .i64 H2, .slice b m d] 24)) := (by repeat (first | exact Gr.refl _ | assumption | exact Dr.gr (by assumption) | refine Gr.alloc ?_ _ | refine Gr.drewN ?_ _ | refine Gr.drew ?_ | refine Gr.trans ?_ (by assumption) | refine Gr.trans ?_ (Dr.gr (by assumption))))
  replace c1 := cell_gr c1 hg1
  replace c2 := cell_gr c2 hg1
  replace c3 := cell_gr c3 hg1
  rw [World.size_alloc] at d1 d2 d3
  generalize (w.alloc (.cells #[.int .i64 W1, .int .i64 H1, .slice a n c] 24)).alloc (.cells #[.int .i64 W2, .int .i64 H2, .slice b m d] 24) = u0 at *
  replace h := h.gr hgw
  replace k := k.gr hgw
  clear hg1
  generalize hB : w.heap.size = B at *
  clear hB
  have hdz : ∀ U : World, U.drew.heap.size = U.heap.size := fun _ => rfl
  go_cut [11, 12] from 13 (fun s t u => ∃ BX BY gx cx gy cy : Nat, s = .pointer (some ⟨BX, 0, none⟩) ∧ t = .pointer (some ⟨BY, 0, none⟩) ∧ (BX ≠ BY ∧ gx ≠ BY ∧ u0.heap.size ≤ BY) ∧ (u.cell? ⟨BX, 0, none⟩ = some (.int .i64 W1) ∧ u.cell? ⟨BX, 1, none⟩ = some (.int .i64 H1) ∧ u.cell? ⟨BX, 2, none⟩ = some (.slice (some ⟨gx, 0, none⟩) n cx)) ∧ (u.cell? ⟨BY, 0, none⟩ = some (.int .i64 W2) ∧ u.cell? ⟨BY, 1, none⟩ = some (.int .i64 H2) ∧ u.cell? ⟨BY, 2, none⟩ = some (.slice (some ⟨gy, 0, none⟩) m cy)) ∧ (u.frozen? ⟨BY, 0, none⟩ = false ∧ u.frozen? ⟨BY, 1, none⟩ = false ∧ u.frozen? ⟨BY, 2, none⟩ = false) ∧ Sl u (some ⟨gx, 0, none⟩) n f ∧ Sl u (some ⟨gy, 0, none⟩) m g ∧ Gr u0 u)
  case first =>
    go_region_held3 (fun u => u.cell? ⟨B, 0, none⟩ = some (.int .i64 W1) ∧ u.cell? ⟨B, 1, none⟩ = some (.int .i64 H1) ∧ u.cell? ⟨B, 2, none⟩ = some (.slice a n c) ∧ u.cell? ⟨B + 1, 0, none⟩ = some (.int .i64 W2) ∧ u.cell? ⟨B + 1, 1, none⟩ = some (.int .i64 H2) ∧ u.cell? ⟨B + 1, 2, none⟩ = some (.slice b m d) ∧ Gr u0 u) ((refine keep6 c1 c2 c3 d1 d2 d3 ?_; exact (by repeat (first | (with_reducible exact Gr.refl _) | (with_reducible assumption) | (with_reducible refine Gr.alloc ?_ _) | (with_reducible refine Gr.drew ?_) | (with_reducible refine Gr.set ?_ (by dsimp only; omega) _) | (with_reducible refine Gr.trans ?_ (by with_reducible assumption)))))) (first | (go_at_call_of 19 (Value.slice a n c); have hS := ‹_ ∧ _ ∧ _ ∧ _ ∧ _ ∧ _ ∧ Gr _ _›; refine (ownTile_any _ _ _ _ _ f _ (h.gr hS.2.2.2.2.2.2) (by omega) ha).mono ?_; rintro e w7 ⟨⟨gx, cx, rfl, hx⟩, hg7⟩; obtain ⟨-, -, xb, xl, sx⟩ := hx.sl; (try simp only [World.size_alloc, hdz] at xb); clear hx; have hz7 := (hS.2.2.2.2.2.2.trans hg7).size; obtain ⟨ho7, hf7, -⟩ := hg7.old2; (try have qa : u0.heap.size < w7.heap.size := (by have q := hg7.size; (try simp only [World.size_alloc, hdz] at q); omega)); (try have qb : u0.heap.size + 1 < w7.heap.size := (by have q := hg7.size; (try simp only [World.size_alloc, hdz] at q); omega))) | (go_at_call_of 19 (Value.slice b m d); have hS := ‹_ ∧ _ ∧ _ ∧ _ ∧ _ ∧ _ ∧ Gr _ _›; refine (ownTile_any _ _ _ _ _ g _ (k.gr hS.2.2.2.2.2.2) (by omega) hb).mono ?_; rintro e w8 ⟨⟨gy, cy, rfl, hy⟩, hg8⟩; obtain ⟨-, -, yb, yl, sy⟩ := hy.sl; (try simp only [World.size_alloc] at yb); have sx8 := sx.gr (Gr.trans (by repeat (first | (with_reducible exact Gr.refl _) | (with_reducible assumption) | (with_reducible refine Gr.alloc ?_ _) | (with_reducible refine Gr.drew ?_) | (with_reducible refine Gr.set ?_ (by dsimp only; omega) _) | (with_reducible refine Gr.trans ?_ (by with_reducible assumption)))) hg8); have z78 := hg8.size; (try simp only [World.size_alloc] at z78); clear hy; have hz8 := (hS.2.2.2.2.2.2.trans hg8).size; obtain ⟨ho8, hf8, -⟩ := hg8.old2; (try have qc : u0.heap.size < w8.heap.size := (by have q := hg8.size; (try simp only [World.size_alloc] at q); omega)); (try have qd : u0.heap.size + 1 < w8.heap.size := (by have q := hg8.size; (try simp only [World.size_alloc] at q); omega)); (try have qe : w7.heap.size < w8.heap.size := (by have q := hg8.size; (try simp only [World.size_alloc] at q); omega)); (try have qf : w7.heap.size + 1 < w8.heap.size := (by have q := hg8.size; (try simp only [World.size_alloc] at q); omega))))
    all_goals
      go_wp2_with fail
      go_meet
    all_goals
      have hGe := (‹_ ∧ _ ∧ _ ∧ _ ∧ _ ∧ _ ∧ Gr u0 _›).2.2.2.2.2.2
    all_goals
      refine ⟨_, _, gx, cx, gy, cy, rfl, rfl, ⟨by omega, by omega, by omega⟩, ⟨?_, ?_, ?_⟩, ⟨?_, ?_, ?_⟩, ⟨?_, ?_, ?_⟩, (by repeat (first | (with_reducible assumption) | (with_reducible refine Sl.setO ?_ (by dsimp only; omega)) | (with_reducible refine Sl.allocO ?_))), (by repeat (first | (with_reducible assumption) | (with_reducible refine Sl.setO ?_ (by dsimp only; omega)) | (with_reducible refine Sl.allocO ?_))), hGe⟩
    all_goals
      first
        | (go_simp; done)
        | (go_simp; refine World.cell?_setCell_same' _ _ _ ?_; go_simp; done)
  case rest =>
    obtain ⟨BX, BY, gx, cx, gy, cy, rfl, rfl, ⟨n1, n2, n3⟩, ⟨x1, x2, x3⟩, ⟨y1, y2, y3⟩, ⟨f1, f2, f3⟩, sx, sy, hgr⟩ := hcut
    cases one
    · clear c1 c2 c3 d1 d2 d3 f1 f2 f3
      obtain ⟨r, hr⟩ : ∃ r, sameTB W1 H1 n f W2 H2 m g = r := ⟨_, rfl⟩
      have hr' : sameTB W2 H2 m g W1 H1 n f = r := by rw [sameTB_symm]; exact hr
      have hrr := sameTB_self W1 H1 n f
      go_wp2_with fail
      go_region_held3 (fun u => u.cell? ⟨BX, 0, none⟩ = some (.int .i64 W1) ∧ u.cell? ⟨BX, 1, none⟩ = some (.int .i64 H1) ∧ u.cell? ⟨BX, 2, none⟩ = some (.slice (some ⟨gx, 0, none⟩) n cx) ∧ u.cell? ⟨BY, 0, none⟩ = some (.int .i64 W2) ∧ u.cell? ⟨BY, 1, none⟩ = some (.int .i64 H2) ∧ u.cell? ⟨BY, 2, none⟩ = some (.slice (some ⟨gy, 0, none⟩) m cy) ∧ Gr wc u) (first | exact keep6 x1 x2 x3 y1 y2 y3 (Gr.refl _).drew | exact keep6 hS.1 hS.2.1 hS.2.2.1 hS.2.2.2.1 hS.2.2.2.2.1 hS.2.2.2.2.2.1 (hS.2.2.2.2.2.2.trans hg9) | exact keep6 x1 x2 x3 y1 y2 y3 (hS.2.2.2.2.2.2.trans hg9)) (first | (go_at_call 8; have hS := ‹_ ∧ _ ∧ _ ∧ _ ∧ _ ∧ _ ∧ Gr _ _›; refine (told_any _).mono ?_; rintro e w9 ⟨rfl, hg9⟩) | (go_at_call_of 23 (#[Value.agg #[.int .i64 W1, .int .i64 H1, .slice (some (Addr.mk gx 0 none)) n cx], Value.agg #[.int .i64 W2, .int .i64 H2, .slice (some (Addr.mk gy 0 none)) m cy]]); have hS := ‹_ ∧ _ ∧ _ ∧ _ ∧ _ ∧ _ ∧ Gr _ _›; refine (tsame_any _ _ _ _ _ _ _ _ _ _ f g _ (sx.gr hS.2.2.2.2.2.2) (sy.gr hS.2.2.2.2.2.2)).mono ?_; rintro e w9 ⟨rfl, hg9⟩; rw [hr]) | (go_at_call_of 23 (#[Value.agg #[.int .i64 W2, .int .i64 H2, .slice (some (Addr.mk gy 0 none)) m cy], Value.agg #[.int .i64 W1, .int .i64 H1, .slice (some (Addr.mk gx 0 none)) n cx]]); have hS := ‹_ ∧ _ ∧ _ ∧ _ ∧ _ ∧ _ ∧ Gr _ _›; refine (tsame_any _ _ _ _ _ _ _ _ _ _ g f _ (sy.gr hS.2.2.2.2.2.2) (sx.gr hS.2.2.2.2.2.2)).mono ?_; rintro e w9 ⟨rfl, hg9⟩; rw [hr']) | (go_at_call_of 23 (#[Value.agg #[.int .i64 W1, .int .i64 H1, .slice (some (Addr.mk gx 0 none)) n cx], Value.agg #[.int .i64 W1, .int .i64 H1, .slice (some (Addr.mk gx 0 none)) n cx]]); have hS := ‹_ ∧ _ ∧ _ ∧ _ ∧ _ ∧ _ ∧ Gr _ _›; refine (tsame_any _ _ _ _ _ _ _ _ _ _ f f _ (sx.gr hS.2.2.2.2.2.2) (sx.gr hS.2.2.2.2.2.2)).mono ?_; rintro e w9 ⟨rfl, hg9⟩; rw [hrr]) | (go_at_call 21; have hS := ‹_ ∧ _ ∧ _ ∧ _ ∧ _ ∧ _ ∧ Gr _ _›; refine (rsameT_any _ _ _ _ _ _ _ _ _ _ f g _ (sx.gr hS.2.2.2.2.2.2) (sy.gr hS.2.2.2.2.2.2)).mono ?_; rintro e w9 ⟨rfl, hg9⟩; rw [hr]))
      have hge := (‹_ ∧ _ ∧ _ ∧ _ ∧ _ ∧ _ ∧ Gr _ w9›).2.2.2.2.2.2
      have hgf : Gr w w9 := (hgw.trans hgr).trans hge
      clear x1 x2 x3 y1 y2 y3
      go_wp2
      go_ret
      exact ⟨ret_bool (by simp), hgf⟩
    · clear d1 d2 d3
      replace c1 := cell_gr c1 hgr
      replace c2 := cell_gr c2 hgr
      replace c3 := cell_gr c3 hgr
      have h' := h.gr hgr
      have lx : BX < wc.heap.size := World.block_lt_of_cell? wc ⟨BX, 0, none⟩ x1
      have ly : BY < wc.heap.size := World.block_lt_of_cell? wc ⟨BY, 0, none⟩ y1
      have lgx : n ≠ 0 → gx < wc.heap.size := by
        intro h0
        obtain ⟨b, o, e, hb, -⟩ := sx.at (by omega)
        cases e
        exact hb
      go_wp2_with fail
      refine (ownTile_any _ _ _ _ _ f _ h' (by omega) ha).mono ?_
      rintro e w2 ⟨⟨g2, k2, rfl, hown⟩, hg2⟩
      obtain ⟨-, -, b2, l2, s2⟩ := hown.sl
      replace x1 := cell_gr x1 hg2
      replace x2 := cell_gr x2 hg2
      replace x3 := cell_gr x3 hg2
      replace y1 := cell_gr y1 hg2
      replace y2 := cell_gr y2 hg2
      replace y3 := cell_gr y3 hg2
      replace f1 := (hg2.frozen BY 0 ly).trans f1
      replace f2 := (hg2.frozen BY 1 ly).trans f2
      replace f3 := (hg2.frozen BY 2 ly).trans f3
      replace sx := sx.gr hg2
      have hsz := hgr.size
      replace hgr := hgr.trans hg2
      obtain ⟨q1, q2, q3, q4⟩ := set3 (v0 := .int .i64 W1) (v1 := .int .i64 H1) (v2 := .slice (some ⟨g2, 0, none⟩) n k2) y1 y2 y3
      have p1 := (q4 BX 0 n1).trans x1
      have p2 := (q4 BX 1 n1).trans x2
      have p3 := (q4 BX 2 n1).trans x3
      have sx3 : Sl (((w2.setCell ⟨BY, 0, none⟩ (.int .i64 W1)).setCell ⟨BY, 1, none⟩ (.int .i64 H1)).setCell ⟨BY, 2, none⟩ (.slice (some ⟨g2, 0, none⟩) n k2)) (some ⟨gx, 0, none⟩) n f := Sl.setO (Sl.setO (Sl.setO sx n2) n2) n2
      have own3 : OwnB (((w2.setCell ⟨BY, 0, none⟩ (.int .i64 W1)).setCell ⟨BY, 1, none⟩ (.int .i64 H1)).setCell ⟨BY, 2, none⟩ (.slice (some ⟨g2, 0, none⟩) n k2)) wc.heap.size g2 n k2 f := ⟨ownsRow_setCell_below (ownsRow_setCell_below (ownsRow_setCell_below hown.own (a := ⟨BY, 0, none⟩) ly _) (a := ⟨BY, 1, none⟩) ly _) (a := ⟨BY, 2, none⟩) ly _, hown.byte⟩
      have hgr3 : Gr u0 (((w2.setCell ⟨BY, 0, none⟩ (.int .i64 W1)).setCell ⟨BY, 1, none⟩ (.int .i64 H1)).setCell ⟨BY, 2, none⟩ (.slice (some ⟨g2, 0, none⟩) n k2)) := ((hgr.set (p := ⟨BY, 0, none⟩) n3 _).set (p := ⟨BY, 1, none⟩) n3 _).set (p := ⟨BY, 2, none⟩) n3 _
      have e2 : g2 ≠ BY := by omega
      have e3 : n ≠ 0 → gx ≠ g2 := fun q => by have := lgx q; omega
      have hsy : Sl (((w2.setCell ⟨BY, 0, none⟩ (.int .i64 W1)).setCell ⟨BY, 1, none⟩ (.int .i64 H1)).setCell ⟨BY, 2, none⟩ (.slice (some ⟨g2, 0, none⟩) n k2)) (some ⟨g2, 0, none⟩) n f := own3.sl.2.2.2.2
      clear q4 sx s2 sy hg2 hown lgx c1 c2 c3 h'
      by_cases h0 : n = 0
      · have h0' : ¬ (0 : Int) < (n : Int) := by omega
        clear h0 e3 e2
        go_wp2_with fail
        generalize (((w2.setCell ⟨BY, 0, none⟩ (.int .i64 W1)).setCell ⟨BY, 1, none⟩ (.int .i64 H1)).setCell ⟨BY, 2, none⟩ (.slice (some ⟨g2, 0, none⟩) n k2)) = u3 at *
        clear x1 x2 x3 y1 y2 y3 f1 f2 f3 own3 hgr
        obtain ⟨r, hr⟩ : ∃ r, sameTB W1 H1 n f W1 H1 n f = r := ⟨_, rfl⟩
        have hr' : sameTB W1 H1 n f W1 H1 n f = r := by rw [sameTB_symm]; exact hr
        have hrr := sameTB_self W1 H1 n f
        go_wp2_with fail
        go_region_held3 (fun u => u.cell? ⟨BX, 0, none⟩ = some (.int .i64 W1) ∧ u.cell? ⟨BX, 1, none⟩ = some (.int .i64 H1) ∧ u.cell? ⟨BX, 2, none⟩ = some (.slice (some ⟨gx, 0, none⟩) n cx) ∧ u.cell? ⟨BY, 0, none⟩ = some (.int .i64 W1) ∧ u.cell? ⟨BY, 1, none⟩ = some (.int .i64 H1) ∧ u.cell? ⟨BY, 2, none⟩ = some (.slice (some ⟨g2, 0, none⟩) n k2) ∧ Gr u3 u) (first | exact keep6 p1 p2 p3 q1 q2 q3 (Gr.refl _).drew | exact keep6 p1 p2 p3 q1 q2 q3 (hS.2.2.2.2.2.2.trans hg9)) (first | (go_at_call 8; have hS := ‹_ ∧ _ ∧ _ ∧ _ ∧ _ ∧ _ ∧ Gr _ _›; refine (told_any _).mono ?_; rintro e w9 ⟨rfl, hg9⟩) | (go_at_call_of 23 (#[Value.agg #[.int .i64 W1, .int .i64 H1, .slice (some (Addr.mk gx 0 none)) n cx], Value.agg #[.int .i64 W1, .int .i64 H1, .slice (some (Addr.mk g2 0 none)) n k2]]); have hS := ‹_ ∧ _ ∧ _ ∧ _ ∧ _ ∧ _ ∧ Gr _ _›; refine (tsame_any _ _ _ _ _ _ _ _ _ _ f f _ (sx3.gr hS.2.2.2.2.2.2) (hsy.gr hS.2.2.2.2.2.2)).mono ?_; rintro e w9 ⟨rfl, hg9⟩; rw [hr]) | (go_at_call_of 23 (#[Value.agg #[.int .i64 W1, .int .i64 H1, .slice (some (Addr.mk g2 0 none)) n k2], Value.agg #[.int .i64 W1, .int .i64 H1, .slice (some (Addr.mk gx 0 none)) n cx]]); have hS := ‹_ ∧ _ ∧ _ ∧ _ ∧ _ ∧ _ ∧ Gr _ _›; refine (tsame_any _ _ _ _ _ _ _ _ _ _ f f _ (hsy.gr hS.2.2.2.2.2.2) (sx3.gr hS.2.2.2.2.2.2)).mono ?_; rintro e w9 ⟨rfl, hg9⟩; rw [hr']) | (go_at_call_of 23 (#[Value.agg #[.int .i64 W1, .int .i64 H1, .slice (some (Addr.mk gx 0 none)) n cx], Value.agg #[.int .i64 W1, .int .i64 H1, .slice (some (Addr.mk gx 0 none)) n cx]]); have hS := ‹_ ∧ _ ∧ _ ∧ _ ∧ _ ∧ _ ∧ Gr _ _›; refine (tsame_any _ _ _ _ _ _ _ _ _ _ f f _ (sx3.gr hS.2.2.2.2.2.2) (sx3.gr hS.2.2.2.2.2.2)).mono ?_; rintro e w9 ⟨rfl, hg9⟩; rw [hrr]) | (go_at_call 21; have hS := ‹_ ∧ _ ∧ _ ∧ _ ∧ _ ∧ _ ∧ Gr _ _›; refine (rsameT_any _ _ _ _ _ _ _ _ _ _ f f _ (sx3.gr hS.2.2.2.2.2.2) (hsy.gr hS.2.2.2.2.2.2)).mono ?_; rintro e w9 ⟨rfl, hg9⟩; rw [hr]))
        have hge := (‹_ ∧ _ ∧ _ ∧ _ ∧ _ ∧ _ ∧ Gr _ w9›).2.2.2.2.2.2
        have hgf : Gr w w9 := (hgw.trans hgr3).trans hge
        clear p1 p2 p3 q1 q2 q3
        go_wp2
        go_ret
        exact ⟨ret_bool (by simp), hgf⟩
      · have e3' := e3 h0
        obtain ⟨q, hq⟩ : ∃ q : Nat, withinF at_ 0 ((n : Int) - 1) = (q : Int) := by
          have lb := within_bd at_ 0 ((n : Int) - 1) (by omega)
          exact ⟨(withinF at_ 0 ((n : Int) - 1)).toNat, by omega⟩
        have lq : q < n := by
          have lb := within_bd at_ 0 ((n : Int) - 1) (by omega)
          omega
        have hw1 : IntKind.i64.wrap ((n : Int) - 1) = (n : Int) - 1 := wrapI (by omega)
        have hbq := own3.byte q lq
        have i0 : (0 : Int) ≤ (q : Int) := by omega
        have i1 : (q : Int) < (n : Int) := by omega
        have cq : (((w2.setCell ⟨BY, 0, none⟩ (.int .i64 W1)).setCell ⟨BY, 1, none⟩ (.int .i64 H1)).setCell ⟨BY, 2, none⟩ (.slice (some ⟨g2, 0, none⟩) n k2)).cell? ⟨g2, q, none⟩ = some (.int .u8 (f q)) := by rw [own3.own.cellAt q (by omega), cel_get _ _ _ lq]
        have fq := own3.own.frozenAt q
        go_wp2_with fail
        generalize (((w2.setCell ⟨BY, 0, none⟩ (.int .i64 W1)).setCell ⟨BY, 1, none⟩ (.int .i64 H1)).setCell ⟨BY, 2, none⟩ (.slice (some ⟨g2, 0, none⟩) n k2)) = u3 at *
        clear x1 x2 x3 y1 y2 y3 f1 f2 f3 hgr e3
        go_region_with (go_at_call 10; refine (within_st _ _ _ _ (by omega) (by omega) (by omega)).mono ?_; rintro e w9 ⟨rfl, hw9⟩; subst hw9; rw [hq])
        all_goals
          have xb : 0 ≤ bits BinOp.xor IntKind.u8 (f q) by_ ∧ bits BinOp.xor IntKind.u8 (f q) by_ ≤ 255 := bounds_u8 (wf_bits _ _ _ _)
          obtain ⟨-, -, sy4⟩ := store1 own3 (k := q) xb
          have sx4 : Sl (u3.setCell ⟨g2, q, none⟩ (.int .u8 (bits BinOp.xor IntKind.u8 (f q) by_))).drew (some ⟨gx, 0, none⟩) n f := (Sl.setO sx3 e3').gr ((Gr.refl _).drew)
          replace sy4 := sy4.gr ((Gr.refl _).drew)
          have hgr4 : Gr u0 (u3.setCell ⟨g2, q, none⟩ (.int .u8 (bits BinOp.xor IntKind.u8 (f q) by_))).drew := (hgr3.set (p := ⟨g2, q, none⟩) (by dsimp only; omega) _).drew
          generalize upd f q (bits BinOp.xor IntKind.u8 (f q) by_) = f' at *
          replace p1 : (u3.setCell ⟨g2, q, none⟩ (.int .u8 (bits BinOp.xor IntKind.u8 (f q) by_))).drew.cell? ⟨BX, 0, none⟩ = _ := (World.cell?_setCell_far _ _ _ _ (by dsimp only; omega)).trans p1
          replace p2 : (u3.setCell ⟨g2, q, none⟩ (.int .u8 (bits BinOp.xor IntKind.u8 (f q) by_))).drew.cell? ⟨BX, 1, none⟩ = _ := (World.cell?_setCell_far _ _ _ _ (by dsimp only; omega)).trans p2
          replace p3 : (u3.setCell ⟨g2, q, none⟩ (.int .u8 (bits BinOp.xor IntKind.u8 (f q) by_))).drew.cell? ⟨BX, 2, none⟩ = _ := (World.cell?_setCell_far _ _ _ _ (by dsimp only; omega)).trans p3
          replace q1 : (u3.setCell ⟨g2, q, none⟩ (.int .u8 (bits BinOp.xor IntKind.u8 (f q) by_))).drew.cell? ⟨BY, 0, none⟩ = _ := (World.cell?_setCell_far _ _ _ _ (by dsimp only; omega)).trans q1
          replace q2 : (u3.setCell ⟨g2, q, none⟩ (.int .u8 (bits BinOp.xor IntKind.u8 (f q) by_))).drew.cell? ⟨BY, 1, none⟩ = _ := (World.cell?_setCell_far _ _ _ _ (by dsimp only; omega)).trans q2
          replace q3 : (u3.setCell ⟨g2, q, none⟩ (.int .u8 (bits BinOp.xor IntKind.u8 (f q) by_))).drew.cell? ⟨BY, 2, none⟩ = _ := (World.cell?_setCell_far _ _ _ _ (by dsimp only; omega)).trans q3
          clear own3 hsy cq fq sx3 hgr3
          generalize (u3.setCell ⟨g2, q, none⟩ (.int .u8 (bits BinOp.xor IntKind.u8 (f q) by_))).drew = u4 at *
          obtain ⟨r, hr⟩ : ∃ r, sameTB W1 H1 n f W1 H1 n f' = r := ⟨_, rfl⟩
          have hr' : sameTB W1 H1 n f' W1 H1 n f = r := by rw [sameTB_symm]; exact hr
          have hrr := sameTB_self W1 H1 n f
          go_wp2_with fail
          go_region_held3 (fun u => u.cell? ⟨BX, 0, none⟩ = some (.int .i64 W1) ∧ u.cell? ⟨BX, 1, none⟩ = some (.int .i64 H1) ∧ u.cell? ⟨BX, 2, none⟩ = some (.slice (some ⟨gx, 0, none⟩) n cx) ∧ u.cell? ⟨BY, 0, none⟩ = some (.int .i64 W1) ∧ u.cell? ⟨BY, 1, none⟩ = some (.int .i64 H1) ∧ u.cell? ⟨BY, 2, none⟩ = some (.slice (some ⟨g2, 0, none⟩) n k2) ∧ Gr u4 u) (first | exact keep6 p1 p2 p3 q1 q2 q3 (Gr.refl _).drew | exact keep6 p1 p2 p3 q1 q2 q3 (hS.2.2.2.2.2.2.trans hg9)) (first | (go_at_call 8; have hS := ‹_ ∧ _ ∧ _ ∧ _ ∧ _ ∧ _ ∧ Gr _ _›; refine (told_any _).mono ?_; rintro e w9 ⟨rfl, hg9⟩) | (go_at_call_of 23 (#[Value.agg #[.int .i64 W1, .int .i64 H1, .slice (some (Addr.mk gx 0 none)) n cx], Value.agg #[.int .i64 W1, .int .i64 H1, .slice (some (Addr.mk g2 0 none)) n k2]]); have hS := ‹_ ∧ _ ∧ _ ∧ _ ∧ _ ∧ _ ∧ Gr _ _›; refine (tsame_any _ _ _ _ _ _ _ _ _ _ f f' _ (sx4.gr hS.2.2.2.2.2.2) (sy4.gr hS.2.2.2.2.2.2)).mono ?_; rintro e w9 ⟨rfl, hg9⟩; rw [hr]) | (go_at_call_of 23 (#[Value.agg #[.int .i64 W1, .int .i64 H1, .slice (some (Addr.mk g2 0 none)) n k2], Value.agg #[.int .i64 W1, .int .i64 H1, .slice (some (Addr.mk gx 0 none)) n cx]]); have hS := ‹_ ∧ _ ∧ _ ∧ _ ∧ _ ∧ _ ∧ Gr _ _›; refine (tsame_any _ _ _ _ _ _ _ _ _ _ f' f _ (sy4.gr hS.2.2.2.2.2.2) (sx4.gr hS.2.2.2.2.2.2)).mono ?_; rintro e w9 ⟨rfl, hg9⟩; rw [hr']) | (go_at_call_of 23 (#[Value.agg #[.int .i64 W1, .int .i64 H1, .slice (some (Addr.mk gx 0 none)) n cx], Value.agg #[.int .i64 W1, .int .i64 H1, .slice (some (Addr.mk gx 0 none)) n cx]]); have hS := ‹_ ∧ _ ∧ _ ∧ _ ∧ _ ∧ _ ∧ Gr _ _›; refine (tsame_any _ _ _ _ _ _ _ _ _ _ f f _ (sx4.gr hS.2.2.2.2.2.2) (sx4.gr hS.2.2.2.2.2.2)).mono ?_; rintro e w9 ⟨rfl, hg9⟩; rw [hrr]) | (go_at_call 21; have hS := ‹_ ∧ _ ∧ _ ∧ _ ∧ _ ∧ _ ∧ Gr _ _›; refine (rsameT_any _ _ _ _ _ _ _ _ _ _ f f' _ (sx4.gr hS.2.2.2.2.2.2) (sy4.gr hS.2.2.2.2.2.2)).mono ?_; rintro e w9 ⟨rfl, hg9⟩; rw [hr]))
          have hge := (‹_ ∧ _ ∧ _ ∧ _ ∧ _ ∧ _ ∧ Gr _ w9›).2.2.2.2.2.2
          have hgf : Gr w w9 := (hgw.trans hgr4).trans hge
          clear p1 p2 p3 q1 q2 q3
          go_wp2
          go_ret
          exact ⟨ret_bool (by simp), hgf⟩

end Go.Proofs.Ytafghafdapiadaa
