/- The document's MadeTile: a tile of numbers. -/
import Derived.Test.YtigoehoaplndiaaTMade
namespace Go.Proofs.Ytigoehoaplndiaa
open Go.RowKit

theorem step_append_own {P : Program} {ops : Array Oper} {o : Oper} {a : Act} {w : World} {K : Act → World → Prop} {Q : Exit → Act → World → Prop} {E : Prop}
    (hg : o.guard = none) (s x : Operand) (t : TypeId) (ho : o.op = Op.call { callee := Callee.builtin Builtin.append, args := #[s, x], argTypes := #[t, t] })
    (base : Nat) (e : TypeId) (i : TypeInfo) (z : Value) (size bytes : Nat) (ht : P.underlying t = some (.slice e)) (hi : P.info? e = some i) (hz : i.zero = some z)
    (hsize : i.size = size) (hby : i.bytes = bytes) (hzs : z.cells.size = size) (hsz : 0 < size)
    (v : Value) (n : Nat) (xs : List Value) (hs : a.eval s = v) (hown : w.ownsRow base e size v n xs)
    (ad : Addr) (m c : Nat) (news : List Value) (hx : a.eval x = .slice (some ad) m c) (hl : news.length = m * size) (hnews : ∀ j u, news[j]? = some u → w.cell? (ad.add j) = some u) (h1 : ∀ u ∈ news, u.oneCell' = true)
    (h63 : n + m ≤ maxLen) (hbytes : (n + m) * bytes ≤ 140737488355328) (hbase : base ≤ w.heap.size)
    (hK : ∀ v' w', w'.ownsRow base e size v' (n + m) (xs ++ news) → w.grownBy w' v.ownBlock → K (a.put o.dst v') w') :
    if Region.wanted o (yielded ops a.tmps) = true then Oper.wp P o a w K Q else E := by
  have hw : Region.wanted o (yielded ops a.tmps) = true := by simp [Region.wanted, hg]
  rw [if_pos hw]
  exact wp_append_own w s x t ho base e i z size bytes ht hi hz hsize hby hzs hsz v n xs hs hown ad m c news hx hl hnews h1 h63 hbytes hbase fun v' w' r1 r2 _ => hK v' w' r1 r2

set_option maxHeartbeats 400000 in
theorem within_st (n lo hi : Int) (w : World) (h : lo ≤ hi) (hl : -4611686018427387904 ≤ lo * 4) (hh : hi * 4 ≤ 4611686018427387904) :
    Calls Try.prog 19 #[.int .i64 n, .int .i64 lo, .int .i64 hi] w fun e w' => e = .returned (.int .i64 (withinF n lo hi)) ∧ w' = w := by
  have b := tmod_bd n (hi - lo + 1) (by omega)
  have hz : ((hi - lo + 1) == 0) = false := by simp; omega
  by_cases g : n.tmod (hi - lo + 1) < 0
  · have e := tmod_neg n (hi - lo + 1) (by omega) g
    have H : Hid (withinF n lo hi = lo + (n.tmod (hi - lo + 1) + hi - lo + 1)) := hide (by unfold withinF; omega)
    clear e
    go_enter Try.func19, Try.ntmps19
    go_wp2
    go_ret
    exact ⟨ret_int (by rw [H.out]), rfl⟩
  · have e := tmod_pos n (hi - lo + 1) (by omega) g
    have H : Hid (withinF n lo hi = lo + (n.tmod (hi - lo + 1))) := hide (by unfold withinF; omega)
    clear e
    go_enter Try.func19, Try.ntmps19
    go_wp2
    go_ret
    exact ⟨ret_int (by rw [H.out]), rfl⟩

/-- the cost that a tile of numbers has at a local -/
def madeF (n : Nat) (f : Nat → Int) (i : Nat) : Int := costF (if n = 0 then 1 else f ((i + i / n * 5) % n))
theorem madeF_bd {n : Nat} {f : Nat → Int} (hf : ∀ i, i < n → 0 ≤ f i ∧ f i ≤ 255) (i : Nat) : 1 ≤ madeF n f i ∧ madeF n f i ≤ 255 := by
  unfold madeF
  apply costF_bd
  split
  · omega
  · exact hf _ (Nat.mod_lt _ (by omega))
/-- three cells -/
def tri (x y z : Value) : Nat → Value := fun j => if j = 0 then x else if j = 1 then y else z
theorem tri_0 (x y z : Value) : tri x y z 0 = x := rfl
theorem tri_1 (x y z : Value) : tri x y z 1 = y := rfl
theorem tri_2 (x y z : Value) : tri x y z 2 = z := rfl
theorem tri_set (x y z v : Value) : ∀ i, i < 3 → (if i = 2 then v else tri x y z i) = tri x y v i := by
  intro i hi
  rcases (by omega : i = 0 ∨ i = 1 ∨ i = 2) with rfl | rfl | rfl <;> simp [tri]
theorem tri_alloc (w : World) (x y z : Value) (t : TypeId) : (w.alloc (.cells #[x, y, z] t)).rowIs w.heap.size t 3 (tri x y z) :=
  World.rowIs_alloc w #[x, y, z] t (tri x y z) (fun i hi => by
    have hi : i < 3 := hi
    rcases (by omega : i = 0 ∨ i = 1 ∨ i = 2) with rfl | rfl | rfl <;> rfl)
theorem row_gr {w w' : World} {b t n : Nat} {g : Nat → Value} (h : w.rowIs b t n g) (k : Gr w w') : w'.rowIs b t n g := h.of_block (Below.block k b h.lt)
theorem row_grown {w w' : World} {b t n : Nat} {g : Nat → Value} {row : Option Nat} (h : w.rowIs b t n g) (k : w.grownBy w' row) (hr : ∀ q, row = some q → q ≠ b) : w'.rowIs b t n g :=
  h.of_block (k.block b h.lt (fun e => hr b e.symm rfl))

theorem made_step {w wr u w1 : World} {B k c0 : Nat} {a0 : Option Addr} {F : Nat → Int} {t : TypeId} {g1 g0 : Nat → Value} {v' : Value} {p : Int}
    (hown : wr.ownsRow (B + 2) 5 1 (.slice a0 k c0) k (cel .u8 k F)) (hr1 : wr.rowIs (B + 1) t 3 g1) (hr0 : wr.rowIs B t 3 g0) (hgr : Gr w wr) (hB : w.heap.size = B) (hu : Gr wr u)
    (hown' : w1.ownsRow (B + 2) 5 1 v' (k + 1) (cel .u8 k F ++ [.int .u8 p])) (hgrow : u.grownBy w1 (Value.slice a0 k c0).ownBlock) (hp : F k = p) :
    ∃ a1 c1, v' = .slice a1 (k + 1) c1 ∧ w1.ownsRow (B + 2) 5 1 (.slice a1 (k + 1) c1) (k + 1) (cel .u8 (k + 1) F) ∧ w1.rowIs (B + 1) t 3 g1 ∧ w1.rowIs B t 3 g0 ∧ Gr w w1 := by
  rw [← hp, ← cel_succ] at hown'
  obtain ⟨a1, c1, rfl, _⟩ := own_form hown'
  have hl := hown.lt
  exact ⟨a1, c1, rfl, hown', row_grown (row_gr hr1 hu) hgrow (fun q e => by have := (hl q e).1; omega), row_grown (row_gr hr0 hu) hgrow (fun q e => by have := (hl q e).1; omega),
    Gr.grown (hgr.trans hu) hgrow (fun q e => by have := (hl q e).1; omega)⟩

theorem made_next {w w1 : World} {B k c1 : Nat} {a1 : Option Addr} {F : Nat → Int} {t : TypeId} {x y z : Value} {g0 : Nat → Value}
    (hown : w1.ownsRow (B + 2) 5 1 (.slice a1 (k + 1) c1) (k + 1) (cel .u8 (k + 1) F)) (hr1 : w1.rowIs (B + 1) t 3 (tri x y z)) (hr0 : w1.rowIs B t 3 g0) (hgr : Gr w w1) (hB : w.heap.size = B) :
    (w1.setCell ⟨B + 1, 2, none⟩ (.slice a1 (k + 1) c1)).ownsRow (B + 2) 5 1 (.slice a1 (k + 1) c1) (k + 1) (cel .u8 (k + 1) F) ∧ (w1.setCell ⟨B + 1, 2, none⟩ (.slice a1 (k + 1) c1)).rowIs (B + 1) t 3 (tri x y (.slice a1 (k + 1) c1)) ∧
      (w1.setCell ⟨B + 1, 2, none⟩ (.slice a1 (k + 1) c1)).rowIs B t 3 g0 ∧ Gr w (w1.setCell ⟨B + 1, 2, none⟩ (.slice a1 (k + 1) c1)) :=
  ⟨ownsRow_setCell_below hown (a := ⟨B + 1, 2, none⟩) (by show B + 1 < B + 2; omega) _, World.rowIs.congr (hr1.set 2 _) (tri_set x y z _), hr0.setOther (by show B ≠ B + 1; omega) _, hgr.set (by show _ ≤ B + 1; omega) _⟩
theorem made_end {wr : World} {base B N c0 : Nat} {a0 : Option Addr} {F : Nat → Int} (hown : wr.ownsRow (B + 2) 5 1 (.slice a0 N c0) N (cel .u8 N F)) (hN : 0 < N) (hF : ∀ i, 1 ≤ F i ∧ F i ≤ 255) (hb : base ≤ B) (x y z : Value) :
    ∃ g, a0 = some ⟨g, 0, none⟩ ∧ OwnB (((wr.setCell ⟨B, 0, none⟩ x).setCell ⟨B, 1, none⟩ y).setCell ⟨B, 2, none⟩ z) base g N c0 F := by
  obtain ⟨a, c, e, _, _, h⟩ := own_form hown
  simp only [Value.slice.injEq] at e
  obtain ⟨rfl, _, rfl⟩ := e
  rcases h with h | ⟨g, rfl, _⟩
  · omega
  refine ⟨g, rfl, own_mono (base := B + 2) ?_ (by omega), fun i _ => by have := hF i; omega⟩
  exact ownsRow_setCell_below (ownsRow_setCell_below (ownsRow_setCell_below hown (a := ⟨B, 0, none⟩) (by show B < B + 2; omega) x) (a := ⟨B, 1, none⟩) (by show B < B + 2; omega) y) (a := ⟨B, 2, none⟩) (by show B < B + 2; omega) z

set_option maxHeartbeats 4000000 in
set_option maxRecDepth 20000 in
theorem madeTile_any (x y : Int) (ad : Option Addr) (n cap : Nat) (f : Nat → Int) (w : World) (h : Sl w ad n f) (hn : n ≤ maxLen) :
    Calls Try.prog 10 #[.int .i64 x, .int .i64 y, .slice ad n cap] w fun e w' => (∃ g c' N : Nat, e = .returned (.agg #[.int .i64 (withinF x 1 16), .int .i64 (withinF y 1 16), .slice (some ⟨g, 0, none⟩) N c']) ∧ (N : Int) = withinF x 1 16 * withinF y 1 16 ∧ OwnB w' w.heap.size g N c' (madeF n f)) ∧ Gr w w' := by
  obtain ⟨i0, hi, hz0, hz1, hz2⟩ := info_parts info_u8
  have HB : Hid (∀ i, 1 ≤ madeF n f i ∧ madeF n f i ≤ 255) := hide (madeF_bd h.byte)
  unfold maxLen at hn
  obtain ⟨W, hW⟩ : ∃ W, W = withinF x 1 16 := ⟨_, rfl⟩
  obtain ⟨H, hH⟩ : ∃ H, H = withinF y 1 16 := ⟨_, rfl⟩
  have xb := within_bd x 1 16 (by omega)
  have yb := within_bd y 1 16 (by omega)
  rw [← hW] at xb ⊢
  rw [← hH] at yb ⊢
  have HW := hide hW
  have HH := hide hH
  clear hW hH
  have mb := mul_bd (w := W) (h := H) (W := 16) (H := 16) (by omega) (by omega) (by omega) (by omega)
  have mc := Int.mul_le_mul xb.1 yb.1 (by omega) (by omega : (0 : Int) ≤ W)
  obtain ⟨N, hN⟩ : ∃ N : Nat, W * H = N := ⟨(W * H).toNat, by omega⟩
  have hN1 : 1 ≤ N ∧ N ≤ 256 := by omega
  go_enter Try.func10, Try.ntmps10
  go_wp2_with fail
  refine (within_st _ _ _ _ (by omega) (by omega) (by omega)).mono ?_
  rintro e w1 ⟨rfl, rfl⟩
  rw [← HW.out]
  go_wp2_with fail
  refine (within_st _ _ _ _ (by omega) (by omega) (by omega)).mono ?_
  rintro e w1 ⟨rfl, rfl⟩
  rw [← HH.out]
  go_wp2_with fail
  have s0 : ((w.alloc (.cells #[.int .i64 0, .int .i64 0, .slice none 0 0] 24)).alloc (.cells #[.int .i64 W, .int .i64 H, .slice none 0 0] 24)).rowIs (w.heap.size + 1) 24 3 (tri (.int .i64 W) (.int .i64 H) (.slice none 0 0)) := by
    have := tri_alloc (w.alloc (.cells #[.int .i64 0, .int .i64 0, .slice none 0 0] 24)) (.int .i64 W) (.int .i64 H) (.slice none 0 0) 24
    rwa [World.size_alloc] at this
  have s1 := (tri_alloc w (.int .i64 0) (.int .i64 0) (.slice none 0 0) 24).alloc (.cells #[.int .i64 W, .int .i64 H, .slice none 0 0] 24)
  go_loopw [8] (fun i u => ∃ (k : Nat) (a0 : Option Addr) (c0 : Nat), k ≤ N ∧ i = .int .i64 k ∧ u.ownsRow (w.heap.size + 2) 5 1 (.slice a0 k c0) k (cel .u8 k (madeF n f)) ∧ u.rowIs (w.heap.size + 1) 24 3 (tri (.int .i64 W) (.int .i64 H) (.slice a0 k c0)) ∧ u.rowIs w.heap.size 24 3 (tri (.int .i64 0) (.int .i64 0) (.slice none 0 0)) ∧ Gr w u) (fun i _ => N - (intOf i).toNat)
  case atStart => exact ⟨0, none, 0, Nat.zero_le _, rfl, World.ownsRow_nil _ _ _ _, s0, s1, (by repeat (first | exact Gr.refl _ | assumption | exact Dr.gr (by assumption) | refine Gr.alloc ?_ _ | refine Gr.drewN ?_ _ | refine Gr.drew ?_ | refine Gr.trans ?_ (by assumption) | refine Gr.trans ?_ (Dr.gr (by assumption))))⟩
  case round =>
    clear s0 s1
    obtain ⟨k, a0, c0, hk, rfl, hown, hr1, hr0, hgr⟩ := hrel
    have c1 := hr1.cell (i := 0) (by omega)
    have c2 := hr1.cell (i := 1) (by omega)
    have c3 := hr1.cell (i := 2) (by omega)
    have f3 := hr1.frozen 2
    rw [tri_0] at c1
    rw [tri_1] at c2
    rw [tri_2] at c3
    have hsz := hr1.lt
    have hsz0 := hr0.lt
    by_cases hlt : k < N
    · by_cases hn0 : n = 0
      · subst hn0
        have hb := HB.out k
        obtain ⟨p, hp1⟩ : ∃ p : Int, p = 1 := ⟨_, rfl⟩
        have E : Hid (madeF 0 f k = costF p) := hide (by rw [hp1]; simp [madeF])
        have hp : 0 ≤ p ∧ p ≤ 255 := by omega
        have HP := hide hp1.symm
        clear hp1
        have HO := hide hown
        have HR1 := hide hr1
        have HR0 := hide hr0
        clear hown hr1 hr0
        go_wp2
        rw [HP.out]
        go_region_law (first | (refine step_append_own rfl (.tmp 41) (.tmp 44) 22 rfl (w.heap.size + 2) 5 i0 (.int .u8 0) 1 1 Try.underlying22 hi hz0 hz1 hz2 rfl (by decide) (.slice a0 k c0) k _ (by simp [Act.eval]) (own_gr HO.out (by repeat (first | exact Gr.refl _ | assumption | exact Dr.gr (by assumption) | refine Gr.alloc ?_ _ | refine Gr.drewN ?_ _ | refine Gr.drew ?_ | refine Gr.trans ?_ (by assumption) | refine Gr.trans ?_ (Dr.gr (by assumption))))) ⟨wr.heap.size, 0, none⟩ 1 1 [.int .u8 (costF p)] (by simp [Act.eval]) rfl (alloc_one wr _ _) (by simp [Value.oneCell']) (by unfold maxLen; omega) (by omega) (Nat.le_trans (show w.heap.size + 2 ≤ wr.heap.size + 1 by have := HR1.out.lt; omega) (Nat.le_of_eq (World.size_alloc wr _).symm)) ?_; intro v' w1 hown' hgrow; obtain ⟨a1, c1', rfl, hown1, hq1, hq0, hgr1⟩ := made_step HO.out HR1.out HR0.out hgr rfl (by repeat (first | exact Gr.refl _ | assumption | exact Dr.gr (by assumption) | refine Gr.alloc ?_ _ | refine Gr.drewN ?_ _ | refine Gr.drew ?_ | refine Gr.trans ?_ (by assumption) | refine Gr.trans ?_ (Dr.gr (by assumption)))) hown' hgrow E.out; have d3 := hq1.cell (i := 2) (by omega); rw [tri_2] at d3; have g3 := hq1.frozen 2; clear hown' hgrow) | (go_simp; go_wp2_with (go_at_call 20; refine (cost_any _ _ hp).mono ?_; rintro e w' ⟨rfl, rfl⟩)))
        all_goals
          go_wp2
          go_roundw
          case rel => exact ⟨k + 1, a1, c1', by omega, by go_num, made_next hown1 hq1 hq0 hgr1 rfl⟩
          case measure => simp [intOf]; omega
      · obtain ⟨b, o, rfl, hB, hc⟩ := h.at (by omega)
        obtain ⟨q, hq⟩ : ∃ q : Nat, q = (k + k / n * 5) % n := ⟨_, rfl⟩
        have hqn : q < n := by rw [hq]; exact Nat.mod_lt _ (by omega)
        obtain ⟨p, hp1⟩ : ∃ p : Int, p = f q := ⟨_, rfl⟩
        have E : Hid (madeF n f k = costF p) := hide (by rw [hp1, hq]; simp [madeF, hn0])
        have hp : 0 ≤ p ∧ p ≤ 255 := by rw [hp1]; exact h.byte q hqn
        have hcq : wr.cell? ⟨b, o + q, none⟩ = some (.int .u8 p) := by rw [hgr.cell b _ hB, hc q hqn, hp1]
        have hqI : ((k : Int) + (k : Int) / (n : Int) * 5) % (n : Int) = (q : Int) := by rw [hq]; push_cast; rfl
        have hd1 : 0 ≤ (k : Int) / (n : Int) := Int.ediv_nonneg (by omega) (by omega)
        have hd2 : (k : Int) / (n : Int) ≤ k := Int.ediv_le_self _ (by omega)
        have HO := hide hown
        have HR1 := hide hr1
        have HR0 := hide hr0
        have hn1 : ¬ (n : Int) = 0 := by omega
        clear hown hr1 hr0 hc hp1 hq hn0
        go_wp2
        go_region_law (first | (refine step_append_own rfl (.tmp 41) (.tmp 44) 22 rfl (w.heap.size + 2) 5 i0 (.int .u8 0) 1 1 Try.underlying22 hi hz0 hz1 hz2 rfl (by decide) (.slice a0 k c0) k _ (by simp [Act.eval]) (own_gr HO.out (by repeat (first | exact Gr.refl _ | assumption | exact Dr.gr (by assumption) | refine Gr.alloc ?_ _ | refine Gr.drewN ?_ _ | refine Gr.drew ?_ | refine Gr.trans ?_ (by assumption) | refine Gr.trans ?_ (Dr.gr (by assumption))))) ⟨wr.heap.size, 0, none⟩ 1 1 [.int .u8 (costF p)] (by simp [Act.eval]) rfl (alloc_one wr _ _) (by simp [Value.oneCell']) (by unfold maxLen; omega) (by omega) (Nat.le_trans (show w.heap.size + 2 ≤ wr.heap.size + 1 by have := HR1.out.lt; omega) (Nat.le_of_eq (World.size_alloc wr _).symm)) ?_; intro v' w1 hown' hgrow; obtain ⟨a1, c1', rfl, hown1, hq1, hq0, hgr1⟩ := made_step HO.out HR1.out HR0.out hgr rfl (by repeat (first | exact Gr.refl _ | assumption | exact Dr.gr (by assumption) | refine Gr.alloc ?_ _ | refine Gr.drewN ?_ _ | refine Gr.drew ?_ | refine Gr.trans ?_ (by assumption) | refine Gr.trans ?_ (Dr.gr (by assumption)))) hown' hgrow E.out; have d3 := hq1.cell (i := 2) (by omega); rw [tri_2] at d3; have g3 := hq1.frozen 2; clear hown' hgrow) | (go_simp; go_wp2_with (go_at_call 20; refine (cost_any _ _ hp).mono ?_; rintro e w' ⟨rfl, rfl⟩)))
        all_goals
          go_wp2
          go_roundw
          case rel => exact ⟨k + 1, a1, c1', by omega, by go_num, made_next hown1 hq1 hq0 hgr1 rfl⟩
          case measure => simp [intOf]; omega
    · have hkN : k = N := by omega
      subst hkN
      obtain ⟨g, rfl, hend⟩ := made_end hown (by omega) HB.out (Nat.le_refl _) (.int .i64 W) (.int .i64 H) (.slice a0 k c0)
      have e1 := hr0.cell (i := 0) (by omega)
      have e2 := hr0.cell (i := 1) (by omega)
      have e3 := hr0.cell (i := 2) (by omega)
      have j1 := hr0.frozen 0
      have j2 := hr0.frozen 1
      have j3 := hr0.frozen 2
      rw [tri_0] at e1
      rw [tri_1] at e2
      rw [tri_2] at e3
      clear hr0 hr1 hown
      go_wp2
      exact bodyPost_ret (v := .agg #[.int .i64 W, .int .i64 H, .slice (some ⟨g, 0, none⟩) k c0]) (by simp [results, Try.results10, go_sem, e1, e2, e3]) rfl ⟨⟨g, c0, k, rfl, hN.symm, hend⟩, (by repeat (first | exact Gr.refl _ | assumption | exact Dr.gr (by assumption) | refine Gr.alloc ?_ _ | refine Gr.drewN ?_ _ | refine Gr.drew ?_ | (refine Gr.set ?_ (by first | exact Nat.le_refl _ | exact Nat.le_succ _ | (show _ ≤ _; omega) | (simp only [World.size_alloc] at *; omega)) _) | refine Gr.trans ?_ (by assumption) | refine Gr.trans ?_ (Dr.gr (by assumption))))⟩

end Go.Proofs.Ytigoehoaplndiaa
