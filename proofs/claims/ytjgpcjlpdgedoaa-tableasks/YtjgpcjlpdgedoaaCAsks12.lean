/- TableAsks' walk: it answers true at every input. No condition. -/
import Derived.Test.YtjgpcjlpdgedoaaCRTab12
import Derived.Test.YtjgpcjlpdgedoaaCToL12
import Derived.Test.YtjgpcjlpdgedoaaCSome12
import Derived.Deep.CutRange
import Derived.Deep.RegionLawGrows
namespace Go.Proofs.Ytjgpcjlpdgedoaa
open Go.RowKit
set_option maxRecDepth 20000

/-- a copy of its own: 'append([]int{}, x...)'; nothing that was there turns -/
theorem step_copy12 {ops : Array Oper} {o : Oper} {a : Act} {w : World} {K : Act → World → Prop} {Q : Exit → Act → World → Prop} {E : Prop} (hg : o.guard = none) (s x : Operand) (ho : o.op = Op.call { callee := Callee.builtin Builtin.append, args := #[s, x], argTypes := #[25, 25] })
    (b : Addr) (hs : a.eval s = .slice (some b) 0 0) (al : Option Addr) (t c : Nat) (z : Nat → Int) (hx : a.eval x = .slice al t c) (hit : SlI w al t z) (hnil : al = none → t = 0 ∧ c = 0) (ht : t ≤ 1000)
    (hK : ∀ a' c' w', SlI w' a' t z → (t = 0 ∨ ∃ b, a' = some ⟨b, 0, none⟩ ∧ w.heap.size ≤ b ∧ b < w'.heap.size) → Gr w w' → K (a.put o.dst (.slice a' t c')) w') :
    if Region.wanted o (yielded ops a.tmps) = true then Oper.wp Try.prog o a w K Q else E := by
  obtain ⟨i0, hi, hz0, hz1, hz2⟩ := info_parts info_int
  by_cases h0 : t = 0
  · subst h0
    have hw : Region.wanted o (yielded ops a.tmps) = true := by simp [Region.wanted, hg]
    rw [if_pos hw]
    have hrun : ∀ ty, (Builtin.append_ #[25, 25] ty #[.slice (some b) 0 0, .slice al 0 c]).run Try.prog w = .ok (.slice (some b) 0 0) w := by
      intro ty
      cases al with
      | none => simp [Builtin.append_, run_underlying (P := Try.prog) Try.underlying25, sizeOf, typeInfo, hi, Builtin.lenOf, Builtin.firstCells, storeCells]
      | some y => simp [Builtin.append_, run_underlying (P := Try.prog) Try.underlying25, sizeOf, typeInfo, hi, Builtin.lenOf, Builtin.firstCells, storeCells, loadCells, loadCellsFrom]
    unfold Oper.wp
    simp [execOp, ho, resolve, invoke, builtin, hs, hx, hrun, Result.andThen]
    exact hK _ _ w (.inl rfl) (.inl rfl) (Gr.refl w)
  · cases al with
    | none => exact absurd (hnil rfl).1 h0
    | some ay =>
      refine step_append_grows hg s x 25 ho 3 i0 (.int .i64 0) 1 8 Try.underlying25 hi hz0 hz1 hz2 rfl (by decide) (some b) 0 0 [] hs (fun e => by cases e) rfl (fun b _ j u hu => by cases hu) ay t c (cel .i64 t z) hx (by rw [cel_len, Nat.mul_one]) ?_ (cel_one _ _ _) (by omega) (by unfold maxLen; omega) (by omega) ?_
      · intro j u hu
        have hj : j < t := by have := (List.getElem?_eq_some_iff.1 hu).1; rwa [cel_len] at this
        rw [cel_get _ _ _ hj] at hu
        cases hu
        rcases hit with h4 | ⟨b, off, e, hb, hc⟩
        · omega
        · cases e
          have := hc j hj
          have e : (⟨b, off, none⟩ : Addr).add j = ⟨b, off + j, none⟩ := by unfold Addr.add; split <;> simp_all
          rw [e]
          exact this
      · intro v' w' hown hgrow
        rw [Nat.zero_add, List.nil_append] at hown
        obtain ⟨a9, cap9, e9, -, -, h9⟩ := own_form hown
        obtain ⟨c', a', e, h3⟩ := SlI.of_own hown
        subst e
        cases e9
        refine hK _ _ _ h3.2.2 (by
          rcases h9 with h9 | ⟨g, h9, h10, h11, -⟩
          · exact .inl h9
          · exact .inr ⟨g, h9, h10, h11⟩) (Gr.grown (Gr.refl w) hgrow (fun q e => by cases e))
theorem SlI.over12 {u : World} {B t : Nat} {a : Option Addr} {z : Nat → Int} {p q r : Value} (h : SlI u a t z) (k : t = 0 ∨ ∃ b, a = some ⟨b, 0, none⟩ ∧ b ≠ B) : SlI (((u.setCell ⟨B, 0, none⟩ p).setCell ⟨B, 1, none⟩ q).setCell ⟨B, 2, none⟩ r) a t z := by
  rcases k with k | ⟨b, e, hne⟩
  · exact .inl k
  · rcases h with h | ⟨b', o, e', hb, hc⟩
    · exact .inl h
    · rw [e] at e'
      cases e'
      have hk := kp_over12 (u := u) (B := B) (x := p) (y := q) (z := r)
      exact .inr ⟨b, 0, e, Nat.lt_of_lt_of_le hb hk.size, fun i hi => hk.cell (hc i hi) hne⟩
/-- a local as the law asks for it -/
def okZ (f : Nat → Int) (n : Nat) (z : Nat → Int) (i : Nat) : Prop := (0 ≤ z i ∧ z i < (n : Int) ∧ f (z i).toNat ≠ 255) ∧ (i = 0 ∨ z (i - 1) < z i)
section
variable {f : Nat → Int} {n : Nat} {z : Nat → Int} {j : Nat} {T : Bool}
theorem okZ_no (h : false = true ↔ T = true ∧ ∀ i, i < j → okZ f n z i) : false = true ↔ T = true ∧ ∀ i, i < j + 1 → okZ f n z i :=
  ⟨fun e => (by cases e), fun e => h.2 ⟨e.1, fun i hi => e.2 i (by omega)⟩⟩
theorem okZ_bad (h : ¬ okZ f n z j) : false = true ↔ T = true ∧ ∀ i, i < j + 1 → okZ f n z i :=
  ⟨fun e => (by cases e), fun e => absurd (e.2 j (by omega)) h⟩
theorem okZ_ok (h : true = true ↔ T = true ∧ ∀ i, i < j → okZ f n z i) (k : okZ f n z j) : true = true ↔ T = true ∧ ∀ i, i < j + 1 → okZ f n z i :=
  ⟨fun e => ⟨(h.1 e).1, fun i hi => by
    by_cases c : i = j
    · subst c; exact k
    · exact (h.1 e).2 i (by omega)⟩, fun _ => rfl⟩
theorem okZ_opn (h : ∀ i, i < j → okZ f n z i) : Opn f n z j :=
  ⟨fun i hi => (h i hi).1, fun i hi => by
    rcases (h (i + 1) hi).2 with k | k
    · omega
    · simpa using k⟩
theorem okZ_not {W H : Int} (hb : ∀ i, i < n → 0 ≤ f i ∧ f i ≤ 255) (h : false = true ↔ mayTB W H n f = true ∧ ∀ i, i < j → okZ f n z i) : ¬ (riseB z j = true ∧ mayS W H n f (goalsL z j) = true) := by
  rintro ⟨a, b⟩
  obtain ⟨b1, b2⟩ := (may_goals hb).1 b
  have := h.2 ⟨b1, fun i hi => ⟨b2 i hi, riseB_iff.1 a i hi⟩⟩
  cases this
end
theorem meet_set12 {w1 u : World} {B g1 n k1 t : Nat} {f z : Nat → Int} {a5 : Option Addr} {W H : Int} {p q r : Value} (hbx : u.rowIs B 24 3 (tri p q r)) (hs : Sl u (some ⟨g1, 0, none⟩) n f) (hne : g1 ≠ B) (hI : SlI u a5 t z) (hN : t = 0 ∨ ∃ b, a5 = some ⟨b, 0, none⟩ ∧ b ≠ B) (hg : Gr w1 u) (hB : w1.heap.size ≤ B) :
    w1.heap.size ≤ B ∧ (((u.setCell ⟨B, 0, none⟩ (.int .i64 W)).setCell ⟨B, 1, none⟩ (.int .i64 H)).setCell ⟨B, 2, none⟩ (.slice (some ⟨g1, 0, none⟩) n k1)).rowIs B 24 3 (tri (.int .i64 W) (.int .i64 H) (.slice (some ⟨g1, 0, none⟩) n k1)) ∧ Sl (((u.setCell ⟨B, 0, none⟩ (.int .i64 W)).setCell ⟨B, 1, none⟩ (.int .i64 H)).setCell ⟨B, 2, none⟩ (.slice (some ⟨g1, 0, none⟩) n k1)) (some ⟨g1, 0, none⟩) n f ∧ SlI (((u.setCell ⟨B, 0, none⟩ (.int .i64 W)).setCell ⟨B, 1, none⟩ (.int .i64 H)).setCell ⟨B, 2, none⟩ (.slice (some ⟨g1, 0, none⟩) n k1)) a5 t z ∧ Gr w1 (((u.setCell ⟨B, 0, none⟩ (.int .i64 W)).setCell ⟨B, 1, none⟩ (.int .i64 H)).setCell ⟨B, 2, none⟩ (.slice (some ⟨g1, 0, none⟩) n k1)) :=
  ⟨hB, box_over12 hbx, kp_over12.sl hs hne, hI.over12 hN, gr_over12 hg hB⟩
theorem meet_alloc12 {w1 u : World} {g1 n k1 t : Nat} {f z : Nat → Int} {a5 : Option Addr} {W H : Int} (hs : Sl u (some ⟨g1, 0, none⟩) n f) (hI : SlI u a5 t z) (hg : Gr w1 u) :
    w1.heap.size ≤ u.heap.size ∧ (u.alloc (.cells #[.int .i64 W, .int .i64 H, .slice (some ⟨g1, 0, none⟩) n k1] 24)).rowIs u.heap.size 24 3 (tri (.int .i64 W) (.int .i64 H) (.slice (some ⟨g1, 0, none⟩) n k1)) ∧ Sl (u.alloc (.cells #[.int .i64 W, .int .i64 H, .slice (some ⟨g1, 0, none⟩) n k1] 24)) (some ⟨g1, 0, none⟩) n f ∧ SlI (u.alloc (.cells #[.int .i64 W, .int .i64 H, .slice (some ⟨g1, 0, none⟩) n k1] 24)) a5 t z ∧ Gr w1 (u.alloc (.cells #[.int .i64 W, .int .i64 H, .slice (some ⟨g1, 0, none⟩) n k1] 24)) :=
  ⟨hg.size, tri_alloc _ _ _ _ _, hs.gr ((Gr.refl u).alloc _), hI.gr ((Gr.refl u).alloc _), hg.alloc _⟩
theorem drew_size12 (w : World) : w.drew.heap.size = w.heap.size := rfl
theorem keep12 {u0 u : World} {B : Nat} {x y z : Value} (h : u0.cell? ⟨B, 0, none⟩ = some x ∧ u0.cell? ⟨B, 1, none⟩ = some y ∧ u0.cell? ⟨B, 2, none⟩ = some z ∧ Gr u0 u0) (g : Gr u0 u) :
    u.cell? ⟨B, 0, none⟩ = some x ∧ u.cell? ⟨B, 1, none⟩ = some y ∧ u.cell? ⟨B, 2, none⟩ = some z ∧ Gr u0 u := ⟨cell_gr h.1 g, cell_gr h.2.1 g, cell_gr h.2.2.1 g, g⟩
set_option maxHeartbeats 16000000 in
theorem tableAsks_any (W H : Int) (a : Option Addr) (n cap : Nat) (f : Nat → Int) (x y : Int) (ak : Option Addr) (m kc : Nat) (z : Nat → Int) (raw : Bool) (w : World)
    (h : Sl w a n f) (hn : n ≤ maxLen) (ha : a = none → n = 0 ∧ cap = 0) (hk : SlI w ak m z) (hkm : m ≤ kc ∧ kc ≤ maxLen) (hkn : ak = none → m = 0 ∧ kc = 0) :
    Calls Try.prog 3 #[.agg #[.int .i64 W, .int .i64 H, .slice a n cap], .int .i64 x, .int .i64 y, .slice ak m kc, .bool raw] w fun e w' => e = .returned (.bool true) ∧ Gr w w' := by
  unfold maxLen at hn hkm
  obtain ⟨c1, c2, c3⟩ := tri_at w W H (.slice a n cap)
  have hg1 : Gr w (w.alloc (.cells #[.int .i64 W, .int .i64 H, .slice a n cap] 24)) := (Gr.refl w).alloc _
  go_enter Try.func3, Try.ntmps3
  go_upto_region 1 with fail
  generalize (w.alloc (.cells #[.int .i64 W, .int .i64 H, .slice a n cap] 24)) = w1 at *
  generalize w.heap.size = B0 at *
  have hsl := h.gr hg1
  have hk00 := hk
  replace hk := hk.gr hg1
  have hws := hg1.size
  clear h
  by_cases h6 : 600 < n
  · have h6i : (600 : Int) < (n : Int) := by omega
    go_wp2_with fail
    refine (told12_any _).mono ?_
    rintro e w2 ⟨rfl, hg2⟩
    go_wp2
    go_ret
    exact ⟨rfl, hg1.trans hg2⟩
  · have h6i : ¬ (600 : Int) < (n : Int) := by omega
    obtain ⟨t, ht⟩ : ∃ t : Nat, t = min m 12 := ⟨_, rfl⟩
    have tm : t ≤ m := by omega
    have t12 : t ≤ 12 := by omega
    have emin : min (m : Int) 12 = (t : Int) := by omega
    have t0 : (0 : Int) ≤ (t : Int) := by omega
    have tk : (t : Int) ≤ (kc : Int) := by omega
    have hkt : SlI w1 ak t z := by
      rcases hk with hk | ⟨b, o, e, hb, hc⟩
      · exact .inl (by omega)
      · exact .inr ⟨b, o, e, hb, fun i hi => hc i (by omega)⟩
    have hknt : ak = none → t = 0 ∧ kc = 0 := fun e => by have := hkn e; omega
    have h0t : 0 + t = t := Nat.zero_add t
    clear ht
    go_upto_region 3 with fail
    go_cut [11, 12] from 22 to 30 (fun xv sv u => ∃ (BX g1 k1 : Nat) (a5 : Option Addr) (c5 : Nat), xv = .pointer (some ⟨BX, 0, none⟩) ∧ sv = .slice a5 t c5 ∧ w1.heap.size ≤ BX ∧ u.rowIs BX 24 3 (tri (.int .i64 W) (.int .i64 H) (.slice (some ⟨g1, 0, none⟩) n k1)) ∧ Sl u (some ⟨g1, 0, none⟩) n f ∧ SlI u a5 t z ∧ Gr w1 u)
    case first =>
      have HTL := hide (fun u (g : Gr w1 u) => ownTile_any W H a n cap f u (hsl.gr g) (by omega) ha)
      have HKT := hide (fun u (g : Gr w1 u) => hkt.gr g)
      have HKN := hide hknt
      clear hsl hk hk00 hkt hknt ha h6 h6i hn hg1
      go_region_held3 (fun u => u.cell? ⟨B0, 0, none⟩ = some (.int .i64 W) ∧ u.cell? ⟨B0, 1, none⟩ = some (.int .i64 H) ∧ u.cell? ⟨B0, 2, none⟩ = some (.slice a n cap) ∧ Gr w1 u) ((refine keep12 ⟨c1, c2, c3, Gr.refl _⟩ ?_; exact (by (repeat (first | (with_reducible exact Gr.refl _) | (with_reducible assumption) | (with_reducible refine Gr.alloc ?_ _) | (with_reducible refine Gr.drew ?_) | (with_reducible refine Gr.set ?_ (by dsimp only; omega) _) | (with_reducible refine Gr.trans ?_ (by with_reducible assumption)))); first | done | fail))) (first | (refine step_copy12 rfl (.tmp 24) (.tmp 29) rfl ⟨w1.heap.size, 0, none⟩ rfl ak t kc z rfl (HKT.out _ (by (repeat (first | (with_reducible exact Gr.refl _) | (with_reducible assumption) | (with_reducible refine Gr.alloc ?_ _) | (with_reducible refine Gr.drew ?_) | (with_reducible refine Gr.set ?_ (by dsimp only; omega) _) | (with_reducible refine Gr.trans ?_ (by with_reducible assumption)))); first | done | fail)) HKN.out (by omega) ?_; intro a5 c5 w5 hI5 hN5 hg5; have hgt : w1.heap.size ≤ w5.heap.size := Gr.size (a := w1) (by (repeat (first | (with_reducible exact Gr.refl _) | (with_reducible assumption) | (with_reducible refine Gr.alloc ?_ _) | (with_reducible refine Gr.drew ?_) | (with_reducible refine Gr.set ?_ (by dsimp only; omega) _) | (with_reducible refine Gr.trans ?_ (by with_reducible assumption)))); first | done | fail); (try (have hbx : w5.rowIs w1.heap.size 24 3 (tri (.int .i64 0) (.int .i64 0) (.slice none 0 0)) := row_gr (w := w1.alloc (.cells #[.int .i64 0, .int .i64 0, .slice none 0 0] 24)) (by have := tri_alloc w1 (.int .i64 0) (.int .i64 0) (.slice none 0 0) 24; simpa only [World.size_alloc] using this) (by (repeat (first | (with_reducible exact Gr.refl _) | (with_reducible assumption) | (with_reducible refine Gr.alloc ?_ _) | (with_reducible refine Gr.drew ?_) | (with_reducible refine Gr.set ?_ (by dsimp only; omega) _) | (with_reducible refine Gr.trans ?_ (by with_reducible assumption)))); first | done | fail); obtain ⟨⟨y1, y2, y3⟩, y4⟩ := row_tri12 hbx)); (try (have hbx : w5.rowIs (w1.heap.size + 1) 24 3 (tri (.int .i64 0) (.int .i64 0) (.slice none 0 0)) := row_gr (w := (w1.alloc (.cells #[] 3)).alloc (.cells #[.int .i64 0, .int .i64 0, .slice none 0 0] 24)) (by have := tri_alloc (w1.alloc (.cells #[] 3)) (.int .i64 0) (.int .i64 0) (.slice none 0 0) 24; simpa only [World.size_alloc] using this) (by (repeat (first | (with_reducible exact Gr.refl _) | (with_reducible assumption) | (with_reducible refine Gr.alloc ?_ _) | (with_reducible refine Gr.drew ?_) | (with_reducible refine Gr.set ?_ (by dsimp only; omega) _) | (with_reducible refine Gr.trans ?_ (by with_reducible assumption)))); first | done | fail); obtain ⟨⟨y1, y2, y3⟩, y4⟩ := row_tri12 hbx)); (try (have hbx : w5.rowIs w2.heap.size 24 3 (tri (.int .i64 0) (.int .i64 0) (.slice none 0 0)) := row_gr (w := w2.alloc (.cells #[.int .i64 0, .int .i64 0, .slice none 0 0] 24)) (by have := tri_alloc w2 (.int .i64 0) (.int .i64 0) (.slice none 0 0) 24; simpa only [World.size_alloc] using this) (by (repeat (first | (with_reducible exact Gr.refl _) | (with_reducible assumption) | (with_reducible refine Gr.alloc ?_ _) | (with_reducible refine Gr.drew ?_) | (with_reducible refine Gr.set ?_ (by dsimp only; omega) _) | (with_reducible refine Gr.trans ?_ (by with_reducible assumption)))); first | done | fail); obtain ⟨⟨y1, y2, y3⟩, y4⟩ := row_tri12 hbx)); (try (have hbx : w5.rowIs (w2.heap.size + 1) 24 3 (tri (.int .i64 0) (.int .i64 0) (.slice none 0 0)) := row_gr (w := (w2.alloc (.cells #[] 3)).alloc (.cells #[.int .i64 0, .int .i64 0, .slice none 0 0] 24)) (by have := tri_alloc (w2.alloc (.cells #[] 3)) (.int .i64 0) (.int .i64 0) (.slice none 0 0) 24; simpa only [World.size_alloc] using this) (by (repeat (first | (with_reducible exact Gr.refl _) | (with_reducible assumption) | (with_reducible refine Gr.alloc ?_ _) | (with_reducible refine Gr.drew ?_) | (with_reducible refine Gr.set ?_ (by dsimp only; omega) _) | (with_reducible refine Gr.trans ?_ (by with_reducible assumption)))); first | done | fail); obtain ⟨⟨y1, y2, y3⟩, y4⟩ := row_tri12 hbx))) | (refine step_copy12 rfl (.tmp 24) (.tmp 29) rfl ⟨(w1.heap.size + 1), 0, none⟩ rfl ak t kc z rfl (HKT.out _ (by (repeat (first | (with_reducible exact Gr.refl _) | (with_reducible assumption) | (with_reducible refine Gr.alloc ?_ _) | (with_reducible refine Gr.drew ?_) | (with_reducible refine Gr.set ?_ (by dsimp only; omega) _) | (with_reducible refine Gr.trans ?_ (by with_reducible assumption)))); first | done | fail)) HKN.out (by omega) ?_; intro a5 c5 w5 hI5 hN5 hg5; have hgt : w1.heap.size ≤ w5.heap.size := Gr.size (a := w1) (by (repeat (first | (with_reducible exact Gr.refl _) | (with_reducible assumption) | (with_reducible refine Gr.alloc ?_ _) | (with_reducible refine Gr.drew ?_) | (with_reducible refine Gr.set ?_ (by dsimp only; omega) _) | (with_reducible refine Gr.trans ?_ (by with_reducible assumption)))); first | done | fail); (try (have hbx : w5.rowIs w1.heap.size 24 3 (tri (.int .i64 0) (.int .i64 0) (.slice none 0 0)) := row_gr (w := w1.alloc (.cells #[.int .i64 0, .int .i64 0, .slice none 0 0] 24)) (by have := tri_alloc w1 (.int .i64 0) (.int .i64 0) (.slice none 0 0) 24; simpa only [World.size_alloc] using this) (by (repeat (first | (with_reducible exact Gr.refl _) | (with_reducible assumption) | (with_reducible refine Gr.alloc ?_ _) | (with_reducible refine Gr.drew ?_) | (with_reducible refine Gr.set ?_ (by dsimp only; omega) _) | (with_reducible refine Gr.trans ?_ (by with_reducible assumption)))); first | done | fail); obtain ⟨⟨y1, y2, y3⟩, y4⟩ := row_tri12 hbx)); (try (have hbx : w5.rowIs (w1.heap.size + 1) 24 3 (tri (.int .i64 0) (.int .i64 0) (.slice none 0 0)) := row_gr (w := (w1.alloc (.cells #[] 3)).alloc (.cells #[.int .i64 0, .int .i64 0, .slice none 0 0] 24)) (by have := tri_alloc (w1.alloc (.cells #[] 3)) (.int .i64 0) (.int .i64 0) (.slice none 0 0) 24; simpa only [World.size_alloc] using this) (by (repeat (first | (with_reducible exact Gr.refl _) | (with_reducible assumption) | (with_reducible refine Gr.alloc ?_ _) | (with_reducible refine Gr.drew ?_) | (with_reducible refine Gr.set ?_ (by dsimp only; omega) _) | (with_reducible refine Gr.trans ?_ (by with_reducible assumption)))); first | done | fail); obtain ⟨⟨y1, y2, y3⟩, y4⟩ := row_tri12 hbx)); (try (have hbx : w5.rowIs w2.heap.size 24 3 (tri (.int .i64 0) (.int .i64 0) (.slice none 0 0)) := row_gr (w := w2.alloc (.cells #[.int .i64 0, .int .i64 0, .slice none 0 0] 24)) (by have := tri_alloc w2 (.int .i64 0) (.int .i64 0) (.slice none 0 0) 24; simpa only [World.size_alloc] using this) (by (repeat (first | (with_reducible exact Gr.refl _) | (with_reducible assumption) | (with_reducible refine Gr.alloc ?_ _) | (with_reducible refine Gr.drew ?_) | (with_reducible refine Gr.set ?_ (by dsimp only; omega) _) | (with_reducible refine Gr.trans ?_ (by with_reducible assumption)))); first | done | fail); obtain ⟨⟨y1, y2, y3⟩, y4⟩ := row_tri12 hbx)); (try (have hbx : w5.rowIs (w2.heap.size + 1) 24 3 (tri (.int .i64 0) (.int .i64 0) (.slice none 0 0)) := row_gr (w := (w2.alloc (.cells #[] 3)).alloc (.cells #[.int .i64 0, .int .i64 0, .slice none 0 0] 24)) (by have := tri_alloc (w2.alloc (.cells #[] 3)) (.int .i64 0) (.int .i64 0) (.slice none 0 0) 24; simpa only [World.size_alloc] using this) (by (repeat (first | (with_reducible exact Gr.refl _) | (with_reducible assumption) | (with_reducible refine Gr.alloc ?_ _) | (with_reducible refine Gr.drew ?_) | (with_reducible refine Gr.set ?_ (by dsimp only; omega) _) | (with_reducible refine Gr.trans ?_ (by with_reducible assumption)))); first | done | fail); obtain ⟨⟨y1, y2, y3⟩, y4⟩ := row_tri12 hbx))) | (refine step_copy12 rfl (.tmp 24) (.tmp 29) rfl ⟨w2.heap.size, 0, none⟩ rfl ak t kc z rfl (HKT.out _ (by (repeat (first | (with_reducible exact Gr.refl _) | (with_reducible assumption) | (with_reducible refine Gr.alloc ?_ _) | (with_reducible refine Gr.drew ?_) | (with_reducible refine Gr.set ?_ (by dsimp only; omega) _) | (with_reducible refine Gr.trans ?_ (by with_reducible assumption)))); first | done | fail)) HKN.out (by omega) ?_; intro a5 c5 w5 hI5 hN5 hg5; have hgt : w1.heap.size ≤ w5.heap.size := Gr.size (a := w1) (by (repeat (first | (with_reducible exact Gr.refl _) | (with_reducible assumption) | (with_reducible refine Gr.alloc ?_ _) | (with_reducible refine Gr.drew ?_) | (with_reducible refine Gr.set ?_ (by dsimp only; omega) _) | (with_reducible refine Gr.trans ?_ (by with_reducible assumption)))); first | done | fail); (try (have hbx : w5.rowIs w1.heap.size 24 3 (tri (.int .i64 0) (.int .i64 0) (.slice none 0 0)) := row_gr (w := w1.alloc (.cells #[.int .i64 0, .int .i64 0, .slice none 0 0] 24)) (by have := tri_alloc w1 (.int .i64 0) (.int .i64 0) (.slice none 0 0) 24; simpa only [World.size_alloc] using this) (by (repeat (first | (with_reducible exact Gr.refl _) | (with_reducible assumption) | (with_reducible refine Gr.alloc ?_ _) | (with_reducible refine Gr.drew ?_) | (with_reducible refine Gr.set ?_ (by dsimp only; omega) _) | (with_reducible refine Gr.trans ?_ (by with_reducible assumption)))); first | done | fail); obtain ⟨⟨y1, y2, y3⟩, y4⟩ := row_tri12 hbx)); (try (have hbx : w5.rowIs (w1.heap.size + 1) 24 3 (tri (.int .i64 0) (.int .i64 0) (.slice none 0 0)) := row_gr (w := (w1.alloc (.cells #[] 3)).alloc (.cells #[.int .i64 0, .int .i64 0, .slice none 0 0] 24)) (by have := tri_alloc (w1.alloc (.cells #[] 3)) (.int .i64 0) (.int .i64 0) (.slice none 0 0) 24; simpa only [World.size_alloc] using this) (by (repeat (first | (with_reducible exact Gr.refl _) | (with_reducible assumption) | (with_reducible refine Gr.alloc ?_ _) | (with_reducible refine Gr.drew ?_) | (with_reducible refine Gr.set ?_ (by dsimp only; omega) _) | (with_reducible refine Gr.trans ?_ (by with_reducible assumption)))); first | done | fail); obtain ⟨⟨y1, y2, y3⟩, y4⟩ := row_tri12 hbx)); (try (have hbx : w5.rowIs w2.heap.size 24 3 (tri (.int .i64 0) (.int .i64 0) (.slice none 0 0)) := row_gr (w := w2.alloc (.cells #[.int .i64 0, .int .i64 0, .slice none 0 0] 24)) (by have := tri_alloc w2 (.int .i64 0) (.int .i64 0) (.slice none 0 0) 24; simpa only [World.size_alloc] using this) (by (repeat (first | (with_reducible exact Gr.refl _) | (with_reducible assumption) | (with_reducible refine Gr.alloc ?_ _) | (with_reducible refine Gr.drew ?_) | (with_reducible refine Gr.set ?_ (by dsimp only; omega) _) | (with_reducible refine Gr.trans ?_ (by with_reducible assumption)))); first | done | fail); obtain ⟨⟨y1, y2, y3⟩, y4⟩ := row_tri12 hbx)); (try (have hbx : w5.rowIs (w2.heap.size + 1) 24 3 (tri (.int .i64 0) (.int .i64 0) (.slice none 0 0)) := row_gr (w := (w2.alloc (.cells #[] 3)).alloc (.cells #[.int .i64 0, .int .i64 0, .slice none 0 0] 24)) (by have := tri_alloc (w2.alloc (.cells #[] 3)) (.int .i64 0) (.int .i64 0) (.slice none 0 0) 24; simpa only [World.size_alloc] using this) (by (repeat (first | (with_reducible exact Gr.refl _) | (with_reducible assumption) | (with_reducible refine Gr.alloc ?_ _) | (with_reducible refine Gr.drew ?_) | (with_reducible refine Gr.set ?_ (by dsimp only; omega) _) | (with_reducible refine Gr.trans ?_ (by with_reducible assumption)))); first | done | fail); obtain ⟨⟨y1, y2, y3⟩, y4⟩ := row_tri12 hbx))) | (refine step_copy12 rfl (.tmp 24) (.tmp 29) rfl ⟨(w2.heap.size + 1), 0, none⟩ rfl ak t kc z rfl (HKT.out _ (by (repeat (first | (with_reducible exact Gr.refl _) | (with_reducible assumption) | (with_reducible refine Gr.alloc ?_ _) | (with_reducible refine Gr.drew ?_) | (with_reducible refine Gr.set ?_ (by dsimp only; omega) _) | (with_reducible refine Gr.trans ?_ (by with_reducible assumption)))); first | done | fail)) HKN.out (by omega) ?_; intro a5 c5 w5 hI5 hN5 hg5; have hgt : w1.heap.size ≤ w5.heap.size := Gr.size (a := w1) (by (repeat (first | (with_reducible exact Gr.refl _) | (with_reducible assumption) | (with_reducible refine Gr.alloc ?_ _) | (with_reducible refine Gr.drew ?_) | (with_reducible refine Gr.set ?_ (by dsimp only; omega) _) | (with_reducible refine Gr.trans ?_ (by with_reducible assumption)))); first | done | fail); (try (have hbx : w5.rowIs w1.heap.size 24 3 (tri (.int .i64 0) (.int .i64 0) (.slice none 0 0)) := row_gr (w := w1.alloc (.cells #[.int .i64 0, .int .i64 0, .slice none 0 0] 24)) (by have := tri_alloc w1 (.int .i64 0) (.int .i64 0) (.slice none 0 0) 24; simpa only [World.size_alloc] using this) (by (repeat (first | (with_reducible exact Gr.refl _) | (with_reducible assumption) | (with_reducible refine Gr.alloc ?_ _) | (with_reducible refine Gr.drew ?_) | (with_reducible refine Gr.set ?_ (by dsimp only; omega) _) | (with_reducible refine Gr.trans ?_ (by with_reducible assumption)))); first | done | fail); obtain ⟨⟨y1, y2, y3⟩, y4⟩ := row_tri12 hbx)); (try (have hbx : w5.rowIs (w1.heap.size + 1) 24 3 (tri (.int .i64 0) (.int .i64 0) (.slice none 0 0)) := row_gr (w := (w1.alloc (.cells #[] 3)).alloc (.cells #[.int .i64 0, .int .i64 0, .slice none 0 0] 24)) (by have := tri_alloc (w1.alloc (.cells #[] 3)) (.int .i64 0) (.int .i64 0) (.slice none 0 0) 24; simpa only [World.size_alloc] using this) (by (repeat (first | (with_reducible exact Gr.refl _) | (with_reducible assumption) | (with_reducible refine Gr.alloc ?_ _) | (with_reducible refine Gr.drew ?_) | (with_reducible refine Gr.set ?_ (by dsimp only; omega) _) | (with_reducible refine Gr.trans ?_ (by with_reducible assumption)))); first | done | fail); obtain ⟨⟨y1, y2, y3⟩, y4⟩ := row_tri12 hbx)); (try (have hbx : w5.rowIs w2.heap.size 24 3 (tri (.int .i64 0) (.int .i64 0) (.slice none 0 0)) := row_gr (w := w2.alloc (.cells #[.int .i64 0, .int .i64 0, .slice none 0 0] 24)) (by have := tri_alloc w2 (.int .i64 0) (.int .i64 0) (.slice none 0 0) 24; simpa only [World.size_alloc] using this) (by (repeat (first | (with_reducible exact Gr.refl _) | (with_reducible assumption) | (with_reducible refine Gr.alloc ?_ _) | (with_reducible refine Gr.drew ?_) | (with_reducible refine Gr.set ?_ (by dsimp only; omega) _) | (with_reducible refine Gr.trans ?_ (by with_reducible assumption)))); first | done | fail); obtain ⟨⟨y1, y2, y3⟩, y4⟩ := row_tri12 hbx)); (try (have hbx : w5.rowIs (w2.heap.size + 1) 24 3 (tri (.int .i64 0) (.int .i64 0) (.slice none 0 0)) := row_gr (w := (w2.alloc (.cells #[] 3)).alloc (.cells #[.int .i64 0, .int .i64 0, .slice none 0 0] 24)) (by have := tri_alloc (w2.alloc (.cells #[] 3)) (.int .i64 0) (.int .i64 0) (.slice none 0 0) 24; simpa only [World.size_alloc] using this) (by (repeat (first | (with_reducible exact Gr.refl _) | (with_reducible assumption) | (with_reducible refine Gr.alloc ?_ _) | (with_reducible refine Gr.drew ?_) | (with_reducible refine Gr.set ?_ (by dsimp only; omega) _) | (with_reducible refine Gr.trans ?_ (by with_reducible assumption)))); first | done | fail); obtain ⟨⟨y1, y2, y3⟩, y4⟩ := row_tri12 hbx))) | (go_at_call 9; refine (HTL.out _ (by (repeat (first | (with_reducible exact Gr.refl _) | (with_reducible assumption) | (with_reducible refine Gr.alloc ?_ _) | (with_reducible refine Gr.drew ?_) | (with_reducible refine Gr.set ?_ (by dsimp only; omega) _) | (with_reducible refine Gr.trans ?_ (by with_reducible assumption)))); first | done | fail)).mono ?_; rintro e w2 ⟨⟨g1, k1, rfl, hown1⟩, hg2⟩; have hgs : w1.heap.size ≤ w2.heap.size := Gr.size (a := w1) (by (repeat (first | (with_reducible exact Gr.refl _) | (with_reducible assumption) | (with_reducible refine Gr.alloc ?_ _) | (with_reducible refine Gr.drew ?_) | (with_reducible refine Gr.set ?_ (by dsimp only; omega) _) | (with_reducible refine Gr.trans ?_ (by with_reducible assumption)))); first | done | fail); (try (have hbx : w2.rowIs w1.heap.size 24 3 (tri (.int .i64 0) (.int .i64 0) (.slice none 0 0)) := row_gr (w := w1.alloc (.cells #[.int .i64 0, .int .i64 0, .slice none 0 0] 24)) (by have := tri_alloc w1 (.int .i64 0) (.int .i64 0) (.slice none 0 0) 24; simpa only [World.size_alloc] using this) (by (repeat (first | (with_reducible exact Gr.refl _) | (with_reducible assumption) | (with_reducible refine Gr.alloc ?_ _) | (with_reducible refine Gr.drew ?_) | (with_reducible refine Gr.set ?_ (by dsimp only; omega) _) | (with_reducible refine Gr.trans ?_ (by with_reducible assumption)))); first | done | fail); obtain ⟨⟨y1, y2, y3⟩, y4⟩ := row_tri12 hbx)); (try (have hbx : w2.rowIs (w1.heap.size + 1) 24 3 (tri (.int .i64 0) (.int .i64 0) (.slice none 0 0)) := row_gr (w := (w1.alloc (.cells #[] 3)).alloc (.cells #[.int .i64 0, .int .i64 0, .slice none 0 0] 24)) (by have := tri_alloc (w1.alloc (.cells #[] 3)) (.int .i64 0) (.int .i64 0) (.slice none 0 0) 24; simpa only [World.size_alloc] using this) (by (repeat (first | (with_reducible exact Gr.refl _) | (with_reducible assumption) | (with_reducible refine Gr.alloc ?_ _) | (with_reducible refine Gr.drew ?_) | (with_reducible refine Gr.set ?_ (by dsimp only; omega) _) | (with_reducible refine Gr.trans ?_ (by with_reducible assumption)))); first | done | fail); obtain ⟨⟨y1, y2, y3⟩, y4⟩ := row_tri12 hbx)); (try (have hbx : w2.rowIs w5.heap.size 24 3 (tri (.int .i64 0) (.int .i64 0) (.slice none 0 0)) := row_gr (w := w5.alloc (.cells #[.int .i64 0, .int .i64 0, .slice none 0 0] 24)) (by have := tri_alloc w5 (.int .i64 0) (.int .i64 0) (.slice none 0 0) 24; simpa only [World.size_alloc] using this) (by (repeat (first | (with_reducible exact Gr.refl _) | (with_reducible assumption) | (with_reducible refine Gr.alloc ?_ _) | (with_reducible refine Gr.drew ?_) | (with_reducible refine Gr.set ?_ (by dsimp only; omega) _) | (with_reducible refine Gr.trans ?_ (by with_reducible assumption)))); first | done | fail); obtain ⟨⟨y1, y2, y3⟩, y4⟩ := row_tri12 hbx))))
      all_goals (go_wp2_with fail; go_meet)
      all_goals (first
        | (refine ⟨_, g1, k1, a5, c5, rfl, rfl, meet_set12 hbx (hown1.sl.2.2.2.2.gr (by (repeat (first | (with_reducible exact Gr.refl _) | (with_reducible assumption) | (with_reducible refine Gr.alloc ?_ _) | (with_reducible refine Gr.drew ?_) | (with_reducible refine Gr.set ?_ (by dsimp only; omega) _) | (with_reducible refine Gr.trans ?_ (by with_reducible assumption)))); first | done | fail)) ?_ (hI5.gr (by (repeat (first | (with_reducible exact Gr.refl _) | (with_reducible assumption) | (with_reducible refine Gr.alloc ?_ _) | (with_reducible refine Gr.drew ?_) | (with_reducible refine Gr.set ?_ (by dsimp only; omega) _) | (with_reducible refine Gr.trans ?_ (by with_reducible assumption)))); first | done | fail)) ?_ (by (repeat (first | (with_reducible exact Gr.refl _) | (with_reducible assumption) | (with_reducible refine Gr.alloc ?_ _) | (with_reducible refine Gr.drew ?_) | (with_reducible refine Gr.set ?_ (by dsimp only; omega) _) | (with_reducible refine Gr.trans ?_ (by with_reducible assumption)))); first | done | fail) ?_⟩
           · (have z1 := hown1.sl.2.2.1; have z2 := hown1.sl.2.2.2.1; have z3 := Gr.size hg2; have z4 := Gr.size hg5; simp only [World.size_alloc, drew_size12] at z1 z2 z3 z4; omega)
           · (rcases hN5 with hN5 | ⟨b9, e9, h91, h92⟩; exact .inl hN5; refine .inr ⟨b9, e9, ?_⟩; have z3 := Gr.size hg2; have z4 := Gr.size hg5; simp only [World.size_alloc, drew_size12] at h91 z3 z4; omega)
           · (have z1 := hown1.sl.2.2.1; have z2 := hown1.sl.2.2.2.1; have z3 := Gr.size hg2; have z4 := Gr.size hg5; simp only [World.size_alloc, drew_size12] at z1 z2 z3 z4; omega))
        | (exact ⟨_, g1, k1, a5, c5, rfl, rfl, meet_alloc12 (hown1.sl.2.2.2.2.gr (by (repeat (first | (with_reducible exact Gr.refl _) | (with_reducible assumption) | (with_reducible refine Gr.alloc ?_ _) | (with_reducible refine Gr.drew ?_) | (with_reducible refine Gr.set ?_ (by dsimp only; omega) _) | (with_reducible refine Gr.trans ?_ (by with_reducible assumption)))); first | done | fail)) (hI5.gr (by (repeat (first | (with_reducible exact Gr.refl _) | (with_reducible assumption) | (with_reducible refine Gr.alloc ?_ _) | (with_reducible refine Gr.drew ?_) | (with_reducible refine Gr.set ?_ (by dsimp only; omega) _) | (with_reducible refine Gr.trans ?_ (by with_reducible assumption)))); first | done | fail)) (by (repeat (first | (with_reducible exact Gr.refl _) | (with_reducible assumption) | (with_reducible refine Gr.alloc ?_ _) | (with_reducible refine Gr.drew ?_) | (with_reducible refine Gr.set ?_ (by dsimp only; omega) _) | (with_reducible refine Gr.trans ?_ (by with_reducible assumption)))); first | done | fail)⟩))
    case rest =>
      obtain ⟨BX, g1, k1, a5, c5, rfl, rfl, hBw1, hrow, t1, s1, hg2⟩ := hcut
      generalize wc = u1 at *
      have hgr := hg1.trans hg2
      have hBw : w.heap.size ≤ BX := Nat.le_trans hws hBw1
      replace c1 := cell_gr c1 hg2
      replace c2 := cell_gr c2 hg2
      replace c3 := cell_gr c3 hg2
      replace hsl := hsl.gr hg2
      replace hk := hk.gr hg2
      clear hg1 hg2 hkt hws hBw1 h0t hknt hkn hkm emin tk tm h6i ha t0
      go_upto_if 32 with fail
      go_cut [12] from 33 (fun sv u => ∃ (W' H' : Int) (g' n' c' : Nat) (f' : Nat → Int) (a2 : Option Addr) (k2 c2 : Nat) (z2 : Nat → Int), sv = .slice a2 k2 c2 ∧ k2 ≤ 12 ∧ SlI u a2 k2 z2 ∧ n' ≤ 600 ∧ u.rowIs BX 24 3 (tri (.int .i64 W') (.int .i64 H') (.slice (some ⟨g', 0, none⟩) n' c')) ∧ Sl u (some ⟨g', 0, none⟩) n' f' ∧ Gr w u)
      case first =>
        cases raw with
        | true =>
          go_wp2_with fail
          go_meet
          exact ⟨W, H, g1, n, k1, f, a5, t, c5, z, rfl, t12, s1, by omega, hrow, t1, hgr⟩
        | false =>
          have hk0 := hide hk
          clear s1
          go_wp2_with fail
          refine (madeTile_any x y a n cap f u1 hsl (by unfold maxLen; omega)).mono ?_
          rintro e u2 ⟨⟨gm, cm, N, rfl, hN, hown⟩, hgm⟩
          have hmay := made_may hsl.byte hN
          have hrow2 := row_gr hrow hgm
          have hlt := hrow.lt
          obtain ⟨⟨r1, r2, r3⟩, hfz⟩ := row_tri12 hrow2
          have hgr2 := hgr.trans hgm
          have N2 := (mayTB_n hmay).2.1
          have N1 := (mayTB_n hmay).1
          clear c1 c2 c3 hsl hrow hk t1
          generalize withinF x 1 16 = W' at *
          generalize withinF y 1 16 = H' at *
          generalize madeF n f = f' at *
          have hgr3 := gr_over12 (x := .int .i64 W') (y := .int .i64 H') (z := .slice (some ⟨gm, 0, none⟩) N cm) hgr2 hBw
          have hgu3 := gr_over12 (x := .int .i64 W') (y := .int .i64 H') (z := .slice (some ⟨gm, 0, none⟩) N cm) (h := hgr.trans hgm) hBw
          have hrow3 := box_over12 (x' := .int .i64 W') (y' := .int .i64 H') (z' := .slice (some ⟨gm, 0, none⟩) N cm) hrow2
          have hslm := (kp_over12 (u := u2) (B := BX) (x := .int .i64 W') (y := .int .i64 H') (z := .slice (some ⟨gm, 0, none⟩) N cm)).sl hown.sl.2.2.2.2 (by have := hown.sl.2.2.1; omega)
          have hk3 : SlI (((u2.setCell ⟨BX, 0, none⟩ (.int .i64 W')).setCell ⟨BX, 1, none⟩ (.int .i64 H')).setCell ⟨BX, 2, none⟩ (.slice (some ⟨gm, 0, none⟩) N cm)) ak m z := hk00.gr hgu3
          clear hN hmay hown hrow2 hgm hgr2 hgr hgu3
          go_upto_region 6 with fail
          clear r1 r2 r3 hfz
          generalize (((u2.setCell ⟨BX, 0, none⟩ (.int .i64 W')).setCell ⟨BX, 1, none⟩ (.int .i64 H')).setCell ⟨BX, 2, none⟩ (.slice (some ⟨gm, 0, none⟩) N cm)) = u3 at *
          obtain ⟨⟨r1, r2, r3⟩, -⟩ := row_tri12 hrow3
          go_wp2_with fail
          refine (some_any W' H' _ N cm f' ak m kc z _ hslm N1 (by omega) hk3).mono ?_
          rintro e u4 ⟨⟨a6, c6, k6, L, rfl, k12, HL, hil⟩, hg4⟩
          go_wp2_with fail
          go_meet
          exact ⟨W', H', gm, N, cm, f', a6, k6, c6, atN L, rfl, k12, hil.sli, by omega, row_gr hrow3 hg4, hslm.gr hg4, hgr3.trans hg4⟩
      case rest =>
        obtain ⟨W', H', g', n', c', f', a2, t2, c2', z2, rfl, ht2, s2, hn6, hrow2, hsl2, hgr2⟩ := hcut
        generalize wc = u2 at *
        clear hrow t1 s1 hsl hk hgr c1 c2 c3 hk00 h6
        obtain ⟨⟨r1, r2, r3⟩, -⟩ := row_tri12 hrow2
        go_wp2_with fail
        refine (rmayT_any W' H' _ n' c' f' _ hsl2).mono ?_
        rintro e u3 ⟨rfl, hg3⟩
        replace r1 := cell_gr r1 hg3
        replace r2 := cell_gr r2 hg3
        replace r3 := cell_gr r3 hg3
        replace hsl2 := hsl2.gr hg3
        replace s2 := s2.gr hg3
        replace hgr2 := hgr2.trans hg3
        obtain ⟨T, hT⟩ : ∃ T, T = mayTB W' H' n' f' := ⟨_, rfl⟩
        rw [← hT]
        have HT := hide hT
        have hw1 : IntKind.i64.wrap ((n' : Int) - 1) = (n' : Int) - 1 := wrapI (by omega)
        clear hg3 hrow2 hT
        go_wp2_with fail
        go_loopw [13, 14] (fun mv iv u => ∃ (b : Bool) (j : Nat), mv = .bool b ∧ iv = .int .i64 j ∧ j ≤ t2 ∧ Hid (b = true ↔ T = true ∧ ∀ i, i < j → okZ f' n' z2 i) ∧ Gr u3 u) (fun _ iv _ => t2 - (intOf iv).toNat)
        case atStart => exact ⟨T, 0, rfl, rfl, by omega, hide ⟨fun e => ⟨e, fun i hi => absurd hi (Nat.not_lt_zero _)⟩, fun e => e.1⟩, Gr.refl _⟩
        case round =>
          obtain ⟨b, j, rfl, rfl, hj, HJ, hgj⟩ := hrel
          generalize wr = u4 at *
          have q1 := cell_gr r1 hgj
          have q2 := cell_gr r2 hgj
          have q3 := cell_gr r3 hgj
          by_cases hjt : j < t2
          · have hji : (j : Int) < (t2 : Int) := by omega
            have j0 : (0 : Int) ≤ (j : Int) := by omega
            obtain ⟨bl, ol, rfl, -, hc⟩ := s2.at (by omega)
            have e1 := cell_gr (hc j hjt) hgj
            cases b with
            | false =>
              clear hc e1
              go_upto_region 11 with fail
              go_quiet (fail)
              go_wp2_with fail
              go_roundw
              case rel => exact ⟨false, j + 1, rfl, by go_num, by omega, hide (okZ_no HJ.out), hgj.drewN _⟩
              case measure => simp [intOf]; omega
            | true =>
              have hTt : T = true := (HJ.out.1 rfl).1
              have n1 := (mayTB_n (HT.out.symm.trans hTt)).1
              obtain ⟨v, hv⟩ : ∃ v, v = z2 j := ⟨_, rfl⟩
              rw [← hv] at e1
              have HV := hide hv
              clear hv
              by_cases hin : 0 ≤ v ∧ v ≤ (n' : Int) - 1
              · have HIN : Hid (∀ u, Dr u4 u → Calls Try.prog 13 #[.int .i64 v, .int .i64 0, .int .i64 ((n' : Int) - 1)] u fun e w' => e = .returned (.bool true) ∧ Dr u w') := hide fun u _ => in_yes _ _ _ _ hin.1 hin.2
                obtain ⟨V, rfl⟩ : ∃ V : Nat, v = (V : Int) := ⟨v.toNat, (Int.toNat_of_nonneg hin.1).symm⟩
                have hVn : V < n' := by omega
                have hVi : (V : Int) < (n' : Int) := by omega
                have V0 : (0 : Int) ≤ (V : Int) := by omega
                obtain ⟨bt, ot, e, -, hct⟩ := hsl2.at (by omega)
                have t1 := cell_gr (hct V hVn) hgj
                cases e
                rw [Nat.zero_add] at t1
                obtain ⟨q, hq⟩ : ∃ q, q = f' V := ⟨_, rfl⟩
                rw [← hq] at t1
                have HQ : Hid (q = f' (z2 j).toNat) := hide (by rw [hq, ← HV.out, Int.toNat_natCast])
                have HLO : Hid (0 ≤ z2 j ∧ z2 j < (n' : Int)) := hide (by rw [← HV.out]; omega)
                clear hct hq hin hTt
                by_cases hq5 : q = 255
                · have hno : ¬ okZ f' n' z2 j := fun k => k.1.2.2 (by rw [← HQ.out]; exact hq5)
                  have HNO := hide hno
                  have eq5 : (q != 255) = false := by simp [hq5]
                  clear hc hq5 hno
                  go_upto_region 11 with fail
                  go_quiet ((go_at_call 13; refine Dr.quiet (HIN.out _ ⟨_, rfl⟩)))
                  go_wp2_with fail
                  go_roundw
                  case rel => exact ⟨false, j + 1, rfl, by go_num, by omega, hide (okZ_bad HNO.out), hgj.drewN _⟩
                  case measure => simp [intOf]; omega
                · have eq5 : (q != 255) = true := by simp [hq5]
                  have HQ5 := hide hq5
                  clear hq5
                  by_cases hj0 : j = 0
                  · have HOK : Hid (okZ f' n' z2 j) := hide ⟨⟨HLO.out.1, HLO.out.2, by rw [← HQ.out]; exact HQ5.out⟩, .inl hj0⟩
                    clear hc
                    subst hj0
                    rw [Nat.add_zero] at e1
                    have hj00 : (0 : Int) < (t2 : Int) := by omega
                    go_upto_region 11 with fail
                    go_quiet ((go_at_call 13; refine Dr.quiet (HIN.out _ ⟨_, rfl⟩)))
                    go_wp2_with fail
                    go_roundw
                    case rel => exact ⟨true, 1, rfl, by go_num, by omega, hide (okZ_ok HJ.out HOK.out), hgj.drewN _⟩
                    case measure => simp [intOf]; omega
                  · obtain ⟨k, hk⟩ : ∃ k, k = j - 1 := ⟨_, rfl⟩
                    have e2 := cell_gr (hc k (by omega)) hgj
                    obtain ⟨p, hp⟩ : ∃ p, p = z2 k := ⟨_, rfl⟩
                    rw [← hp] at e2
                    have hwk : IntKind.i64.wrap ((j : Int) - 1) = ((k : Nat) : Int) := by rw [wrapI (by omega)]; omega
                    have k0 : (0 : Int) ≤ (k : Int) := by omega
                    have k1 : (k : Int) < (t2 : Int) := by omega
                    have HP : Hid (p = z2 (j - 1)) := hide (by rw [hp, hk])
                    have HJ0 := hide hj0
                    clear hc hk hp hj0
                    by_cases hpv : p < (V : Int)
                    · have HOK : Hid (okZ f' n' z2 j) := hide ⟨⟨HLO.out.1, HLO.out.2, by rw [← HQ.out]; exact HQ5.out⟩, .inr (by rw [← HP.out, ← HV.out]; exact hpv)⟩
                      go_upto_region 11 with fail
                      have ej : ((j : Int) == 0) = false := by have := HJ0.out; simp; omega
                      have ej2 : ¬ j = 0 := HJ0.out
                      go_quiet ((go_at_call 13; refine Dr.quiet (HIN.out _ ⟨_, rfl⟩)))
                      go_wp2_with fail
                      go_roundw
                      case rel => exact ⟨true, j + 1, rfl, by go_num, by omega, hide (okZ_ok HJ.out HOK.out), hgj.drewN _⟩
                      case measure => simp [intOf]; omega
                    · have HNO : Hid (¬ okZ f' n' z2 j) := hide (fun k => by
                        rcases k.2 with k | k
                        · exact HJ0.out k
                        · rw [← HP.out, ← HV.out] at k; exact hpv k)
                      go_upto_region 11 with fail
                      have ej : ((j : Int) == 0) = false := by have := HJ0.out; simp; omega
                      have ej2 : ¬ j = 0 := HJ0.out
                      go_quiet ((go_at_call 13; refine Dr.quiet (HIN.out _ ⟨_, rfl⟩)))
                      go_wp2_with fail
                      go_roundw
                      case rel => exact ⟨false, j + 1, rfl, by go_num, by omega, hide (okZ_bad HNO.out), hgj.drewN _⟩
                      case measure => simp [intOf]; omega
              · have HIN : Hid (∀ u, Dr u4 u → Calls Try.prog 13 #[.int .i64 v, .int .i64 0, .int .i64 ((n' : Int) - 1)] u fun e w' => e = .returned (.bool false) ∧ Dr u w') := hide fun u _ => in_no _ _ _ _ (by omega)
                have HNO : Hid (¬ okZ f' n' z2 j) := hide (fun k => hin (by have := k.1; rw [HV.out]; omega))
                clear hin hc hTt
                go_upto_region 11 with fail
                go_quiet ((go_at_call 13; refine Dr.quiet (HIN.out _ ⟨_, rfl⟩)))
                go_wp2_with fail
                go_roundw
                case rel => exact ⟨false, j + 1, rfl, by go_num, by omega, hide (okZ_bad HNO.out), hgj.drewN _⟩
                case measure => simp [intOf]; omega
          · obtain rfl : j = t2 := by omega
            have hsl4 := hsl2.gr hgj
            have s4 := s2.gr hgj
            have hgr4 := hgr2.trans hgj
            clear hsl2 s2 hgr2 r1 r2 r3 hgj
            cases b with
            | false =>
              have hno : ¬ (riseB z2 j = true ∧ mayS W' H' n' f' (goalsL z2 j) = true) := okZ_not hsl4.byte (by rw [← HT.out]; exact HJ.out)
              go_wp2_with fail
              refine (make_no hsl4 s4 (by omega) hno).mono ?_
              rintro e u5 ⟨rfl, hg5⟩
              clear hno
              go_wp2_with fail
              refine (told12_any _).mono ?_
              rintro e u6 ⟨rfl, hg6⟩
              go_wp2_with fail
              go_ret
              exact ⟨rfl, (hgr4.trans hg5).trans hg6⟩
            | true =>
              have hm : mayTB W' H' n' f' = true := HT.out.symm.trans (HJ.out.1 rfl).1
              have ho : Opn f' n' z2 j := okZ_opn (HJ.out.1 rfl).2
              have HO := hide ho
              go_wp2_with fail
              refine (make_yes hsl4 s4 hm ho).mono ?_
              rintro e u5 ⟨⟨gt, ct, G, rfl, -, hfar, hG⟩, hg5⟩
              obtain ⟨M, hM⟩ : ∃ M, M = j * j := ⟨_, rfl⟩
              have hMM : M ≤ 144 := by rw [hM]; exact Nat.mul_le_mul ht2 ht2
              rw [← hM] at hfar ⊢
              have HM := hide hM
              have HG := hide hG
              replace q1 := cell_gr q1 hg5
              replace q2 := cell_gr q2 hg5
              replace q3 := cell_gr q3 hg5
              replace hsl4 := hsl4.gr hg5
              replace s4 := s4.gr hg5
              replace hgr4 := hgr4.trans hg5
              clear hM hG hg5 ho
              go_wp2_with fail
              refine (told12_any _).mono ?_
              rintro e u6 ⟨rfl, hg6⟩
              replace q1 := cell_gr q1 hg6
              replace q2 := cell_gr q2 hg6
              replace q3 := cell_gr q3 hg6
              replace hsl4 := hsl4.gr hg6
              replace s4 := s4.gr hg6
              replace hfar := hfar.gr hg6
              replace hgr4 := hgr4.trans hg6
              clear hg6
              go_wp2_with fail
              refine (rtable_any hsl4 s4 hm HO.out).mono ?_
              rintro e u7 ⟨⟨gs, cs, E, rfl, -, hfs, hE⟩, hg7⟩
              have hEG := tab_same HG.out hE HO.out
              rw [← HM.out] at hfs hEG ⊢
              have x1 := (hfar.gr hg7).sli.same (g := E) (fun i hi => (hEG i hi).symm)
              have x2 := hfs.sli
              replace hgr4 := hgr4.trans hg7
              clear hEG hE hg7 hfar hfs hsl4 s4 q1 q2 q3
              go_wp2_with fail
              refine (ints_same _ _ M _ _ E u7 x1 x2 (by omega)).mono ?_
              rintro e u8 ⟨rfl, hd8⟩
              go_wp2_with fail
              go_ret
              exact ⟨rfl, hgr4.trans hd8.gr⟩
end Go.Proofs.Ytjgpcjlpdgedoaa
