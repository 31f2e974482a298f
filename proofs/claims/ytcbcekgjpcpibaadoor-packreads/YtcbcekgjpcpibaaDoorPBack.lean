/- PackBack's walk: it answers true at every input where the package's variables hold what its text lays; nothing that was there is written. -/
import Derived.Test.YtcbcekgjpcpibaaDoorPTurned
namespace Go.Proofs.YtcbcekgjpcpibaaDoor
open Go.RowKit
set_option maxRecDepth 20000

/-- one list behind another, by the index -/
def appF (n : Nat) (f g : Nat → Int) (i : Nat) : Int := if i < n then f i else g (i - n)
theorem cel_app (n m : Nat) (f g : Nat → Int) : cel .u8 n f ++ cel .u8 m g = cel .u8 (n + m) (appF n f g) := by
  apply List.ext_getElem?
  intro i
  by_cases h : i < n
  · rw [List.getElem?_append_left (by rw [cel_len]; exact h), cel_get _ _ _ h, cel_get _ _ _ (by omega)]
    simp [appF, h]
  · rw [List.getElem?_append_right (by rw [cel_len]; omega), cel_len]
    by_cases h2 : i < n + m
    · rw [cel_get _ _ _ (by omega), cel_get _ _ _ h2]
      simp [appF, h]
    · rw [List.getElem?_eq_none (by rw [cel_len]; omega), List.getElem?_eq_none (by rw [cel_len]; omega)]
theorem appF_bd {n m : Nat} {f g : Nat → Int} (hf : ∀ i, i < n → 0 ≤ f i ∧ f i ≤ 255) (hg : ∀ i, i < m → 0 ≤ g i ∧ g i ≤ 255) : ∀ i, i < n + m → 0 ≤ appF n f g i ∧ appF n f g i ≤ 255 := by
  intro i hi
  unfold appF
  split
  · exact hf i (by assumption)
  · exact hg _ (by omega)
theorem own_empty {w u : World} {base k : Nat} (hk : k = w.heap.size) (hb : base ≤ w.heap.size) (hu : Gr (w.alloc (.cells #[] 5)) u) : u.ownsRow base 5 1 (.slice (some ⟨k, 0, none⟩) 0 0) 0 [] := by
  subst hk
  exact own_gr (World.ownsRow_made w #[] 0 hb (Nat.zero_le _) rfl) hu
theorem rowL_first {w1 u w0 : World} {B n k cc : Nat} {v' : Value} {f : Nat → Int} (h : w1.ownsRow B 5 1 v' (0 + n) ([] ++ cel .u8 n f)) (hn : 0 < n) (hg : u.grownBy w1 (Value.slice (some ⟨k, 0, none⟩) 0 cc).ownBlock) (h0 : Gr w0 u) (hk : w0.heap.size ≤ k) (hb : ∀ i, i < n → 0 ≤ f i ∧ f i ≤ 255) :
    ∃ g c, v' = .slice (some ⟨g, 0, none⟩) n c ∧ OwnB w1 B g n c f ∧ Gr w0 w1 := by
  rw [Nat.zero_add, List.nil_append] at h
  rcases h.2 with ⟨_, h0'⟩ | ⟨g, cap, cur, rfl, hb', r⟩
  · omega
  · refine ⟨g, cap, rfl, ⟨h, hb⟩, Gr.grown h0 hg ?_⟩
    intro j hj
    simp [Value.ownBlock] at hj
    omega
theorem rowL_second {w1 u w0 : World} {B n m g c : Nat} {v' : Value} {f t : Nat → Int} (h : w1.ownsRow B 5 1 v' (n + m) (cel .u8 n f ++ cel .u8 m t)) (hn : 0 < n) (hg : u.grownBy w1 (Value.slice (some ⟨g, 0, none⟩) n c).ownBlock) (h0 : Gr w0 u) (hk : w0.heap.size ≤ g) (hf : ∀ i, i < n → 0 ≤ f i ∧ f i ≤ 255) (ht : ∀ i, i < m → 0 ≤ t i ∧ t i ≤ 255) :
    ∃ g' c', v' = .slice (some ⟨g', 0, none⟩) (n + m) c' ∧ OwnB w1 B g' (n + m) c' (appF n f t) ∧ Gr w0 w1 := by
  rw [cel_app] at h
  rcases h.2 with ⟨_, h0'⟩ | ⟨g', cap, cur, rfl, hb', r⟩
  · omega
  · refine ⟨g', cap, rfl, ⟨h, appF_bd hf ht⟩, Gr.grown h0 hg ?_⟩
    intro j hj
    simp [Value.ownBlock] at hj
    omega

/-- the box of a tile that holds nothing yet -/
def Bx (w : World) (b : Nat) : Prop := w.rowIs b 26 3 (tri (.int .i64 0) (.int .i64 0) (.slice none 0 0))
theorem bx_new (w : World) {k : Nat} (hk : k = w.heap.size) : Bx (w.alloc (.cells #[.int .i64 0, .int .i64 0, .slice none 0 0] 26)) k := by
  subst hk
  exact tri_alloc w _ _ _ _
theorem bx_grown {u w1 : World} {b base k n c : Nat} {xs : List Value} (h : Bx u b) (ho : u.ownsRow base 5 1 (.slice (some ⟨k, 0, none⟩) n c) n xs) (hg : u.grownBy w1 (Value.slice (some ⟨k, 0, none⟩) n c).ownBlock) : Bx w1 b := by
  refine row_grown h hg ?_
  intro q hq e
  simp only [Value.ownBlock, Option.some.injEq] at hq
  subst hq
  subst e
  rcases ho.2 with ⟨e0, _⟩ | ⟨g, cap, cur, e0, _, hh, _⟩
  · simp at e0
  · simp only [Value.slice.injEq, Option.some.injEq, Addr.mk.injEq, and_true, true_and] at e0
    obtain ⟨rfl, _⟩ := e0
    obtain ⟨cs, hcs, -⟩ := h
    rw [hh] at hcs
    simp at hcs
theorem bx_cells {w : World} {b : Nat} (h : Bx w b) : w.cell? ⟨b, 0, none⟩ = some (.int .i64 0) ∧ w.cell? ⟨b, 1, none⟩ = some (.int .i64 0) ∧ w.cell? ⟨b, 2, none⟩ = some (.slice none 0 0) ∧ w.frozen? ⟨b, 0, none⟩ = false ∧ w.frozen? ⟨b, 1, none⟩ = false ∧ w.frozen? ⟨b, 2, none⟩ = false :=
  ⟨h.cell (i := 0) (by omega), h.cell (i := 1) (by omega), h.cell (i := 2) (by omega), h.frozen 0, h.frozen 1, h.frozen 2⟩
theorem sl_lt {w : World} {g n : Nat} {f : Nat → Int} (h : Sl w (some ⟨g, 0, none⟩) n f) (hn : 1 ≤ n) : g < w.heap.size := by
  obtain ⟨b, o, e, hb, -⟩ := h.at hn
  cases e
  exact hb
theorem Sl.drewF {w : World} {a : Option Addr} {n : Nat} {f : Nat → Int} (h : Sl w a n f) : Sl w.drew a n f := h.gr (Gr.refl _).drew
theorem Sl.allocF {w : World} {a : Option Addr} {n : Nat} {f : Nat → Int} {o : Obj} (h : Sl w a n f) : Sl (w.alloc o) a n f := h.gr ((Gr.refl _).alloc _)
theorem step_append_none {P : Program} {ops : Array Oper} {o : Oper} {a : Act} {w : World} {K : Act → World → Prop} {Q : Exit → Act → World → Prop} {E : Prop}
    (hg : o.guard = none) (s x : Operand) (t : TypeId) (ho : o.op = Op.call { callee := Callee.builtin Builtin.append, args := #[s, x], argTypes := #[t, t] })
    (base : Nat) (e : TypeId) (i : TypeInfo) (size : Nat) (ht : P.underlying t = some (.slice e)) (hi : P.info? e = some i)
    (v : Value) (n : Nat) (xs : List Value) (hs : a.eval s = v) (hown : w.ownsRow base e size v n xs) (hx : a.eval x = .slice none 0 0)
    (hK : K (a.put o.dst v) w) :
    if Region.wanted o (yielded ops a.tmps) = true then Oper.wp P o a w K Q else E := by
  have hw : Region.wanted o (yielded ops a.tmps) = true := by simp [Region.wanted, hg]
  rw [if_pos hw]
  have hrun := run_append_owned_none (P := P) (w := w) base t o.type e i size ht hi v n xs hown
  unfold Oper.wp
  simp [execOp, ho, resolve, invoke, builtin, hs, hx, hrun, Result.andThen]
  exact hK
theorem get_back (N u : Nat) (F : Nat → Int) (a : Option Addr) (B cap : Nat) (W H : Int) (b : Nat → Int) (ga : Nat → Addr) (w : World) (h : Sl w a B b) (hw : Glob w ga) (hc : B ≤ cap) (hcm : cap ≤ maxLen) (hB7 : B ≤ 1000000) (hW : 1 ≤ W ∧ W ≤ 16) (hH : 1 ≤ H ∧ H ≤ 16) (hn : (N : Int) = W * H) (hr : getL N B b = (0, lst N F, u)) :
    Calls Tryd.prog 9 #[.slice a B cap, .int .i64 W, .int .i64 H] w fun e w' => (∃ g c, e = .returned (.tuple #[.agg #[.int .i64 W, .int .i64 H, .slice (some ⟨g, 0, none⟩) N c], .int .i64 u, .int .i64 0]) ∧ Sl w' (some ⟨g, 0, none⟩) N F) ∧ Gr w w' := by
  refine (Go.Proofs.YtcbcekgjpcpibaaDoor.get_ok (lst N F) u a B cap W H N b ga w h hw hc hcm hB7 hW hH hn hr).mono ?_
  rintro e w1 ⟨⟨g, c, rfl, h1, h2, h3⟩, hg⟩
  rw [lst_len] at h3
  exact ⟨⟨g, c, by rw [lst_len], h3.congr fun i hi => at0_lst hi⟩, hg⟩

set_option maxHeartbeats 3000000 in
theorem packBack_any (a : Option Addr) (n cap : Nat) (f : Nat → Int) (x y few : Int) (ta : Option Addr) (tn tcap : Nat) (tf : Nat → Int) (ga : Nat → Addr) (w : World) (h : Sl w a n f) (hn : n ≤ maxLen) (ht : Sl w ta tn tf) (hta : ta = none → tn = 0 ∧ tcap = 0) (hw : Glob w ga) :
    Calls Tryd.prog 4 #[.slice a n cap, .int .i64 x, .int .i64 y, .int .i64 few, .slice ta tn tcap] w fun e w' => e = .returned (.bool true) ∧ Gr w w' := by
  obtain ⟨i0, hi, hz0, hz1, hz2⟩ := info_parts info_u8
  by_cases h3 : 300 < tn
  · go_enter Tryd.func4, Tryd.ntmps4
    go_wp2_with (go_at_call 7; refine (told3_any _).mono ?_; rintro e w3 ⟨rfl, hg3⟩)
    go_ret
    exact ⟨rfl, (by repeat (first | exact Gr.refl _ | assumption | exact Dr.gr (by assumption) | refine Gr.alloc ?_ _ | refine Gr.drewN ?_ _ | refine Gr.drew ?_ | refine Gr.trans ?_ (by assumption) | refine Gr.trans ?_ (Dr.gr (by assumption))))⟩
  go_enter Tryd.func4, Tryd.ntmps4
  go_wp2_with fail
  refine (near_made _ _ _ _ _ f _ _ _ _ h hn).mono ?_
  rintro e w1 ⟨⟨g, c', N, F, W, H, rfl, hown, hm⟩, hg1⟩
  obtain ⟨q1, q2, -, -, hsl⟩ := hown.sl
  obtain ⟨n1, n2, n3, -⟩ := mayTB_n hm
  obtain ⟨mW, mH, -, -⟩ := (mayTB_iff _ _ _ _).1 hm
  have hF := may_bd hm hown.byte
  obtain ⟨c1, c2, c3⟩ := tri_cells w1 W H (.slice (some ⟨g, 0, none⟩) N c') 26
  replace hsl := hsl.gr ((Gr.refl w1).alloc (.cells #[.int .i64 W, .int .i64 H, .slice (some ⟨g, 0, none⟩) N c'] 26))
  have hgr : Gr w (w1.alloc (.cells #[.int .i64 W, .int .i64 H, .slice (some ⟨g, 0, none⟩) N c'] 26)) := hg1.alloc _
  clear hown hg1
  go_wp2_with fail
  generalize (w1.alloc (.cells #[.int .i64 W, .int .i64 H, .slice (some ⟨g, 0, none⟩) N c'] 26)) = u0 at *
  generalize w1.heap.size = B at *
  refine (put_yes _ _ _ _ _ F _ hsl q1 q2 hm).mono ?_
  rintro e w2 ⟨⟨g2, k2, rfl, ho2⟩, hg2⟩
  replace c1 := cell_gr c1 hg2
  replace c2 := cell_gr c2 hg2
  replace c3 := cell_gr c3 hg2
  replace hsl := hsl.gr hg2
  replace hgr := hgr.trans hg2
  replace ht := ht.gr hgr
  have hwg := hw.gr hgr
  obtain ⟨p1, p2, -, -, sl2⟩ := ho2.sl
  have hLb := putL_bd2 (f := F) n1
  have hGP : getL N ((putL N F).length + tn) (appF (putL N F).length (at0 (putL N F)) tf) = (0, lst N F, (putL N F).length) := by
    rw [get_put (B := (putL N F).length + tn) n1 hF (fun j hj _ => by unfold appF; rw [if_pos hj]), if_neg (by omega)]
  have hLy : ∀ i, i < (putL N F).length → 0 ≤ at0 (putL N F) i ∧ at0 (putL N F) i ≤ 255 := ho2.byte
  clear ho2
  generalize putL N F = L at *
  have HQ := hide (fun u g' k' (hg : Gr w2 u) (ho : OwnB u w2.heap.size g' (L.length + tn) k' (appF L.length (at0 L) tf)) => get_back N L.length F (some ⟨g', 0, none⟩) (L.length + tn) k' W H _ ga u ho.sl.2.2.2.2 (hwg.gr hg) ho.sl.1 ho.sl.2.1 (by omega) mW mH n3 hGP)
  have HLY := hide hLy
  have HTY := hide ht.byte
  have HC2 : Hid (∀ u, Gr w2 u → ∀ j v, (cel .u8 L.length (at0 L))[j]? = some v → u.cell? ((⟨g2, 0, none⟩ : Addr).add j) = some v) := hide (by
    obtain ⟨b', o', e, hb', hc⟩ := sl2.at (by omega)
    cases e
    exact fun u hu => cel_at hc hb' hu)
  have Lp : 0 < L.length := by omega
  have hdz : ∀ U : World, U.drew.heap.size = U.heap.size := fun _ => rfl
  clear hGP hLy sl2 hg2 hw h hF hm n3 mW mH hwg
  go_wp2_with fail
  go_cut [14, 15, 16] from 17 (fun s p q u => ∃ BX g5 k5, s = .pointer (some ⟨BX, 0, none⟩) ∧ p = .int .i64 L.length ∧ q = .int .i64 0 ∧ (u.cell? ⟨BX, 0, none⟩ = some (.int .i64 W) ∧ u.cell? ⟨BX, 1, none⟩ = some (.int .i64 H) ∧ u.cell? ⟨BX, 2, none⟩ = some (.slice (some ⟨g5, 0, none⟩) N k5)) ∧ Sl u (some ⟨g5, 0, none⟩) N F ∧ Gr w2 u)
  case first =>
    cases ta with
    | some ad =>
      have HCT : Hid (∀ u, Gr w2 u → ∀ j v, (cel .u8 tn tf)[j]? = some v → u.cell? (ad.add j) = some v) := hide (by
        rcases ht.has with h0 | ⟨b', o', e, hb', hc⟩
        · intro u _ j v hj; subst h0; simp [cel] at hj
        · cases e
          exact fun u hu => cel_at hc hb' hu)
      go_region_held3 (fun u => u.cell? ⟨B, 0, none⟩ = some (.int .i64 W) ∧ u.cell? ⟨B, 1, none⟩ = some (.int .i64 H) ∧ u.cell? ⟨B, 2, none⟩ = some (.slice (some ⟨g, 0, none⟩) N c') ∧ Gr w2 u) ((refine keep3 ⟨c1, c2, c3, Gr.refl _⟩ ?_; exact (by (repeat (first | (with_reducible exact Gr.refl _) | (with_reducible assumption) | (with_reducible refine Gr.alloc ?_ _) | (with_reducible refine Gr.drew ?_) | (with_reducible refine Gr.set ?_ (by dsimp only; omega) _) | (with_reducible refine Gr.trans ?_ (by with_reducible assumption)))); first | done | fail))) (first | (refine step_append_own rfl (.tmp 33) (.tmp 34) 22 rfl w2.heap.size 5 i0 (.int .u8 0) 1 1 Tryd.underlying22 hi hz0 hz1 hz2 rfl (by decide) (.slice (some ⟨w2.heap.size, 0, none⟩) 0 0) 0 [] (by simp [Act.eval]) (own_empty (w := w2) rfl (Nat.le_refl _) (by (repeat (first | (with_reducible exact Gr.refl _) | (with_reducible assumption) | (with_reducible refine Gr.alloc ?_ _) | (with_reducible refine Gr.drew ?_) | (with_reducible refine Gr.set ?_ (by dsimp only; omega) _) | (with_reducible refine Gr.trans ?_ (by with_reducible assumption)))); first | done | fail)) ⟨g2, 0, none⟩ L.length k2 (cel .u8 L.length (at0 L)) (by simp [Act.eval]) (by simp [cel_len]) (HC2.out _ (by (repeat (first | (with_reducible exact Gr.refl _) | (with_reducible assumption) | (with_reducible refine Gr.alloc ?_ _) | (with_reducible refine Gr.drew ?_) | (with_reducible refine Gr.set ?_ (by dsimp only; omega) _) | (with_reducible refine Gr.trans ?_ (by with_reducible assumption)))); first | done | fail)) (cel_one _ _ _) (by unfold maxLen; omega) (by omega) (by (try simp only [hdz]); simp only [World.size_alloc]; omega) ?_; intro v' w3 hown3 hgrow3; (try have bx3 := bx_grown (row_gr (bx_new (w2.alloc (Obj.cells #[] 5)) (World.size_alloc w2 _).symm) (by (repeat (first | (with_reducible exact Gr.refl _) | (with_reducible assumption) | (with_reducible refine Gr.alloc ?_ _) | (with_reducible refine Gr.drew ?_) | (with_reducible refine Gr.set ?_ (by dsimp only; omega) _) | (with_reducible refine Gr.trans ?_ (by with_reducible assumption)))); first | done | fail)) (own_empty (w := w2) rfl (Nat.le_refl _) (by (repeat (first | (with_reducible exact Gr.refl _) | (with_reducible assumption) | (with_reducible refine Gr.alloc ?_ _) | (with_reducible refine Gr.drew ?_) | (with_reducible refine Gr.set ?_ (by dsimp only; omega) _) | (with_reducible refine Gr.trans ?_ (by with_reducible assumption)))); first | done | fail)) hgrow3); obtain ⟨g3, k3, rfl, ho3, hg3⟩ := rowL_first (w0 := w2) hown3 Lp hgrow3 (by (repeat (first | (with_reducible exact Gr.refl _) | (with_reducible assumption) | (with_reducible refine Gr.alloc ?_ _) | (with_reducible refine Gr.drew ?_) | (with_reducible refine Gr.set ?_ (by dsimp only; omega) _) | (with_reducible refine Gr.trans ?_ (by with_reducible assumption)))); first | done | fail) (by omega) HLY.out; have hz3 := hg3.size; have hq3 := ho3.sl.2.2.1; clear hown3 hgrow3) | (refine step_append_own rfl (.tmp 33) (.tmp 34) 22 rfl w2.heap.size 5 i0 (.int .u8 0) 1 1 Tryd.underlying22 hi hz0 hz1 hz2 rfl (by decide) (.slice (some ⟨w2.heap.size + 1, 0, none⟩) 0 0) 0 [] (by simp [Act.eval]) (own_empty (base := w2.heap.size) (w := w2.alloc (Obj.cells #[Value.int .i64 0, .int .i64 0, .slice none 0 0] 26)) (World.size_alloc w2 _).symm (by simp only [World.size_alloc]; omega) (by (repeat (first | (with_reducible exact Gr.refl _) | (with_reducible assumption) | (with_reducible refine Gr.alloc ?_ _) | (with_reducible refine Gr.drew ?_) | (with_reducible refine Gr.set ?_ (by dsimp only; omega) _) | (with_reducible refine Gr.trans ?_ (by with_reducible assumption)))); first | done | fail)) ⟨g2, 0, none⟩ L.length k2 (cel .u8 L.length (at0 L)) (by simp [Act.eval]) (by simp [cel_len]) (HC2.out _ (by (repeat (first | (with_reducible exact Gr.refl _) | (with_reducible assumption) | (with_reducible refine Gr.alloc ?_ _) | (with_reducible refine Gr.drew ?_) | (with_reducible refine Gr.set ?_ (by dsimp only; omega) _) | (with_reducible refine Gr.trans ?_ (by with_reducible assumption)))); first | done | fail)) (cel_one _ _ _) (by unfold maxLen; omega) (by omega) (by (try simp only [hdz]); simp only [World.size_alloc]; omega) ?_; intro v' w3 hown3 hgrow3; (try have bx3 := bx_grown (row_gr (bx_new w2 rfl) (by (repeat (first | (with_reducible exact Gr.refl _) | (with_reducible assumption) | (with_reducible refine Gr.alloc ?_ _) | (with_reducible refine Gr.drew ?_) | (with_reducible refine Gr.set ?_ (by dsimp only; omega) _) | (with_reducible refine Gr.trans ?_ (by with_reducible assumption)))); first | done | fail)) (own_empty (base := w2.heap.size) (w := w2.alloc (Obj.cells #[Value.int .i64 0, .int .i64 0, .slice none 0 0] 26)) (World.size_alloc w2 _).symm (by simp only [World.size_alloc]; omega) (by (repeat (first | (with_reducible exact Gr.refl _) | (with_reducible assumption) | (with_reducible refine Gr.alloc ?_ _) | (with_reducible refine Gr.drew ?_) | (with_reducible refine Gr.set ?_ (by dsimp only; omega) _) | (with_reducible refine Gr.trans ?_ (by with_reducible assumption)))); first | done | fail)) hgrow3); obtain ⟨g3, k3, rfl, ho3, hg3⟩ := rowL_first (w0 := w2) hown3 Lp hgrow3 (by (repeat (first | (with_reducible exact Gr.refl _) | (with_reducible assumption) | (with_reducible refine Gr.alloc ?_ _) | (with_reducible refine Gr.drew ?_) | (with_reducible refine Gr.set ?_ (by dsimp only; omega) _) | (with_reducible refine Gr.trans ?_ (by with_reducible assumption)))); first | done | fail) (by omega) HLY.out; have hz3 := hg3.size; have hq3 := ho3.sl.2.2.1; clear hown3 hgrow3) | (refine step_append_own rfl (.tmp 35) (.tmp 36) 22 rfl w2.heap.size 5 i0 (.int .u8 0) 1 1 Tryd.underlying22 hi hz0 hz1 hz2 rfl (by decide) (.slice (some ⟨g3, 0, none⟩) L.length k3) L.length (cel .u8 L.length (at0 L)) (by simp [Act.eval]) (own_gr ho3.own (by (repeat (first | (with_reducible exact Gr.refl _) | (with_reducible assumption) | (with_reducible refine Gr.alloc ?_ _) | (with_reducible refine Gr.drew ?_) | (with_reducible refine Gr.set ?_ (by dsimp only; omega) _) | (with_reducible refine Gr.trans ?_ (by with_reducible assumption)))); first | done | fail)) ad tn tcap (cel .u8 tn tf) (by simp [Act.eval]) (by simp [cel_len]) (HCT.out _ (by (repeat (first | (with_reducible exact Gr.refl _) | (with_reducible assumption) | (with_reducible refine Gr.alloc ?_ _) | (with_reducible refine Gr.drew ?_) | (with_reducible refine Gr.set ?_ (by dsimp only; omega) _) | (with_reducible refine Gr.trans ?_ (by with_reducible assumption)))); first | done | fail)) (cel_one _ _ _) (by unfold maxLen; omega) (by omega) (by (try simp only [World.size_alloc]); omega) ?_; intro v' w4 hown4 hgrow4; (try have bx4 := bx_grown (row_gr bx3 (by (repeat (first | (with_reducible exact Gr.refl _) | (with_reducible assumption) | (with_reducible refine Gr.alloc ?_ _) | (with_reducible refine Gr.drew ?_) | (with_reducible refine Gr.set ?_ (by dsimp only; omega) _) | (with_reducible refine Gr.trans ?_ (by with_reducible assumption)))); first | done | fail)) (own_gr ho3.own (by (repeat (first | (with_reducible exact Gr.refl _) | (with_reducible assumption) | (with_reducible refine Gr.alloc ?_ _) | (with_reducible refine Gr.drew ?_) | (with_reducible refine Gr.set ?_ (by dsimp only; omega) _) | (with_reducible refine Gr.trans ?_ (by with_reducible assumption)))); first | done | fail)) hgrow4); (try have bx4 := bx_grown (row_gr (bx_new w3 rfl) (by (repeat (first | (with_reducible exact Gr.refl _) | (with_reducible assumption) | (with_reducible refine Gr.alloc ?_ _) | (with_reducible refine Gr.drew ?_) | (with_reducible refine Gr.set ?_ (by dsimp only; omega) _) | (with_reducible refine Gr.trans ?_ (by with_reducible assumption)))); first | done | fail)) (own_gr ho3.own (by (repeat (first | (with_reducible exact Gr.refl _) | (with_reducible assumption) | (with_reducible refine Gr.alloc ?_ _) | (with_reducible refine Gr.drew ?_) | (with_reducible refine Gr.set ?_ (by dsimp only; omega) _) | (with_reducible refine Gr.trans ?_ (by with_reducible assumption)))); first | done | fail)) hgrow4); obtain ⟨g4, k4, rfl, ho4, hg4⟩ := rowL_second (w0 := w2) hown4 Lp hgrow4 (by (repeat (first | (with_reducible exact Gr.refl _) | (with_reducible assumption) | (with_reducible refine Gr.alloc ?_ _) | (with_reducible refine Gr.drew ?_) | (with_reducible refine Gr.set ?_ (by dsimp only; omega) _) | (with_reducible refine Gr.trans ?_ (by with_reducible assumption)))); first | done | fail) hq3 HLY.out HTY.out; have hz4 := hg4.size; clear hown4 hgrow4) | (go_at_call 9; refine (HQ.out _ _ _ (by (repeat (first | (with_reducible exact Gr.refl _) | (with_reducible assumption) | (with_reducible refine Gr.alloc ?_ _) | (with_reducible refine Gr.drew ?_) | (with_reducible refine Gr.set ?_ (by dsimp only; omega) _) | (with_reducible refine Gr.trans ?_ (by with_reducible assumption)))); first | done | fail) (ho4.gr (by (repeat (first | (with_reducible exact Gr.refl _) | (with_reducible assumption) | (with_reducible refine Gr.alloc ?_ _) | (with_reducible refine Gr.drew ?_) | (with_reducible refine Gr.set ?_ (by dsimp only; omega) _) | (with_reducible refine Gr.trans ?_ (by with_reducible assumption)))); first | done | fail))).mono ?_; rintro e w5 ⟨⟨g5, k5, rfl, s5⟩, hg5⟩; have hl5 := sl_lt s5 n1; have hz5 := hg5.size; (try simp only [World.size_alloc] at hz5); (try (have bx5 := bx_cells (row_gr bx4 (Gr.trans (by (repeat (first | (with_reducible exact Gr.refl _) | (with_reducible assumption) | (with_reducible refine Gr.alloc ?_ _) | (with_reducible refine Gr.drew ?_) | (with_reducible refine Gr.set ?_ (by dsimp only; omega) _) | (with_reducible refine Gr.trans ?_ (by with_reducible assumption)))); first | done | fail) hg5)); obtain ⟨bc0, bc1, bc2, bf0, bf1, bf2⟩ := bx5; have hap := sl_apart s5 n1 bc0)); (try (have bx5 := bx_cells (row_gr (bx_new w4 rfl) (Gr.trans (by (repeat (first | (with_reducible exact Gr.refl _) | (with_reducible assumption) | (with_reducible refine Gr.alloc ?_ _) | (with_reducible refine Gr.drew ?_) | (with_reducible refine Gr.set ?_ (by dsimp only; omega) _) | (with_reducible refine Gr.trans ?_ (by with_reducible assumption)))); first | done | fail) hg5)); obtain ⟨bc0, bc1, bc2, bf0, bf1, bf2⟩ := bx5; have hap := sl_apart s5 n1 bc0))))
      all_goals
        go_wp2_with fail
        go_meet
      all_goals
        have hGe := (‹_ ∧ _ ∧ _ ∧ Gr w2 _›).2.2.2
      all_goals
        refine ⟨_, g5, k5, rfl, rfl, rfl, ⟨?_, ?_, ?_⟩, ?_, hGe⟩
      all_goals
        first
          | (repeat (first | (with_reducible assumption) | (with_reducible refine Sl.setF ?_ (by first | exact hap | (dsimp only; omega))) | (with_reducible refine Sl.allocF ?_) | (with_reducible refine Sl.drewF ?_))); done
          | (go_simp; done)
          | (go_simp; refine World.cell?_setCell_same' _ _ _ ?_; go_simp; done)
    | none =>
      obtain ⟨rfl, rfl⟩ := hta rfl
      have HQ0 := hide (fun u g' k' (hg : Gr w2 u) (ho : OwnB u w2.heap.size g' L.length k' (at0 L)) => HQ.out u g' k' hg (ho.congr fun i hi => by unfold appF; rw [if_pos hi]))
      simp only [Nat.add_zero] at HQ0
      go_region_held3 (fun u => u.cell? ⟨B, 0, none⟩ = some (.int .i64 W) ∧ u.cell? ⟨B, 1, none⟩ = some (.int .i64 H) ∧ u.cell? ⟨B, 2, none⟩ = some (.slice (some ⟨g, 0, none⟩) N c') ∧ Gr w2 u) ((refine keep3 ⟨c1, c2, c3, Gr.refl _⟩ ?_; exact (by (repeat (first | (with_reducible exact Gr.refl _) | (with_reducible assumption) | (with_reducible refine Gr.alloc ?_ _) | (with_reducible refine Gr.drew ?_) | (with_reducible refine Gr.set ?_ (by dsimp only; omega) _) | (with_reducible refine Gr.trans ?_ (by with_reducible assumption)))); first | done | fail))) (first | (refine step_append_own rfl (.tmp 33) (.tmp 34) 22 rfl w2.heap.size 5 i0 (.int .u8 0) 1 1 Tryd.underlying22 hi hz0 hz1 hz2 rfl (by decide) (.slice (some ⟨w2.heap.size, 0, none⟩) 0 0) 0 [] (by simp [Act.eval]) (own_empty (w := w2) rfl (Nat.le_refl _) (by (repeat (first | (with_reducible exact Gr.refl _) | (with_reducible assumption) | (with_reducible refine Gr.alloc ?_ _) | (with_reducible refine Gr.drew ?_) | (with_reducible refine Gr.set ?_ (by dsimp only; omega) _) | (with_reducible refine Gr.trans ?_ (by with_reducible assumption)))); first | done | fail)) ⟨g2, 0, none⟩ L.length k2 (cel .u8 L.length (at0 L)) (by simp [Act.eval]) (by simp [cel_len]) (HC2.out _ (by (repeat (first | (with_reducible exact Gr.refl _) | (with_reducible assumption) | (with_reducible refine Gr.alloc ?_ _) | (with_reducible refine Gr.drew ?_) | (with_reducible refine Gr.set ?_ (by dsimp only; omega) _) | (with_reducible refine Gr.trans ?_ (by with_reducible assumption)))); first | done | fail)) (cel_one _ _ _) (by unfold maxLen; omega) (by omega) (by (try simp only [hdz]); simp only [World.size_alloc]; omega) ?_; intro v' w3 hown3 hgrow3; (try have bx3 := bx_grown (row_gr (bx_new (w2.alloc (Obj.cells #[] 5)) (World.size_alloc w2 _).symm) (by (repeat (first | (with_reducible exact Gr.refl _) | (with_reducible assumption) | (with_reducible refine Gr.alloc ?_ _) | (with_reducible refine Gr.drew ?_) | (with_reducible refine Gr.set ?_ (by dsimp only; omega) _) | (with_reducible refine Gr.trans ?_ (by with_reducible assumption)))); first | done | fail)) (own_empty (w := w2) rfl (Nat.le_refl _) (by (repeat (first | (with_reducible exact Gr.refl _) | (with_reducible assumption) | (with_reducible refine Gr.alloc ?_ _) | (with_reducible refine Gr.drew ?_) | (with_reducible refine Gr.set ?_ (by dsimp only; omega) _) | (with_reducible refine Gr.trans ?_ (by with_reducible assumption)))); first | done | fail)) hgrow3); obtain ⟨g3, k3, rfl, ho3, hg3⟩ := rowL_first (w0 := w2) hown3 Lp hgrow3 (by (repeat (first | (with_reducible exact Gr.refl _) | (with_reducible assumption) | (with_reducible refine Gr.alloc ?_ _) | (with_reducible refine Gr.drew ?_) | (with_reducible refine Gr.set ?_ (by dsimp only; omega) _) | (with_reducible refine Gr.trans ?_ (by with_reducible assumption)))); first | done | fail) (by omega) HLY.out; have hz3 := hg3.size; have hq3 := ho3.sl.2.2.1; clear hown3 hgrow3) | (refine step_append_own rfl (.tmp 33) (.tmp 34) 22 rfl w2.heap.size 5 i0 (.int .u8 0) 1 1 Tryd.underlying22 hi hz0 hz1 hz2 rfl (by decide) (.slice (some ⟨w2.heap.size + 1, 0, none⟩) 0 0) 0 [] (by simp [Act.eval]) (own_empty (base := w2.heap.size) (w := w2.alloc (Obj.cells #[Value.int .i64 0, .int .i64 0, .slice none 0 0] 26)) (World.size_alloc w2 _).symm (by simp only [World.size_alloc]; omega) (by (repeat (first | (with_reducible exact Gr.refl _) | (with_reducible assumption) | (with_reducible refine Gr.alloc ?_ _) | (with_reducible refine Gr.drew ?_) | (with_reducible refine Gr.set ?_ (by dsimp only; omega) _) | (with_reducible refine Gr.trans ?_ (by with_reducible assumption)))); first | done | fail)) ⟨g2, 0, none⟩ L.length k2 (cel .u8 L.length (at0 L)) (by simp [Act.eval]) (by simp [cel_len]) (HC2.out _ (by (repeat (first | (with_reducible exact Gr.refl _) | (with_reducible assumption) | (with_reducible refine Gr.alloc ?_ _) | (with_reducible refine Gr.drew ?_) | (with_reducible refine Gr.set ?_ (by dsimp only; omega) _) | (with_reducible refine Gr.trans ?_ (by with_reducible assumption)))); first | done | fail)) (cel_one _ _ _) (by unfold maxLen; omega) (by omega) (by (try simp only [hdz]); simp only [World.size_alloc]; omega) ?_; intro v' w3 hown3 hgrow3; (try have bx3 := bx_grown (row_gr (bx_new w2 rfl) (by (repeat (first | (with_reducible exact Gr.refl _) | (with_reducible assumption) | (with_reducible refine Gr.alloc ?_ _) | (with_reducible refine Gr.drew ?_) | (with_reducible refine Gr.set ?_ (by dsimp only; omega) _) | (with_reducible refine Gr.trans ?_ (by with_reducible assumption)))); first | done | fail)) (own_empty (base := w2.heap.size) (w := w2.alloc (Obj.cells #[Value.int .i64 0, .int .i64 0, .slice none 0 0] 26)) (World.size_alloc w2 _).symm (by simp only [World.size_alloc]; omega) (by (repeat (first | (with_reducible exact Gr.refl _) | (with_reducible assumption) | (with_reducible refine Gr.alloc ?_ _) | (with_reducible refine Gr.drew ?_) | (with_reducible refine Gr.set ?_ (by dsimp only; omega) _) | (with_reducible refine Gr.trans ?_ (by with_reducible assumption)))); first | done | fail)) hgrow3); obtain ⟨g3, k3, rfl, ho3, hg3⟩ := rowL_first (w0 := w2) hown3 Lp hgrow3 (by (repeat (first | (with_reducible exact Gr.refl _) | (with_reducible assumption) | (with_reducible refine Gr.alloc ?_ _) | (with_reducible refine Gr.drew ?_) | (with_reducible refine Gr.set ?_ (by dsimp only; omega) _) | (with_reducible refine Gr.trans ?_ (by with_reducible assumption)))); first | done | fail) (by omega) HLY.out; have hz3 := hg3.size; have hq3 := ho3.sl.2.2.1; clear hown3 hgrow3) | (refine step_append_none rfl (.tmp 35) (.tmp 36) 22 rfl w2.heap.size 5 i0 1 Tryd.underlying22 hi (.slice (some ⟨g3, 0, none⟩) L.length k3) L.length (cel .u8 L.length (at0 L)) (by simp [Act.eval]) (own_gr ho3.own (by (repeat (first | (with_reducible exact Gr.refl _) | (with_reducible assumption) | (with_reducible refine Gr.alloc ?_ _) | (with_reducible refine Gr.drew ?_) | (with_reducible refine Gr.set ?_ (by dsimp only; omega) _) | (with_reducible refine Gr.trans ?_ (by with_reducible assumption)))); first | done | fail)) (by simp [Act.eval]) ?_) | (go_at_call 9; refine (HQ0.out _ _ _ (by (repeat (first | (with_reducible exact Gr.refl _) | (with_reducible assumption) | (with_reducible refine Gr.alloc ?_ _) | (with_reducible refine Gr.drew ?_) | (with_reducible refine Gr.set ?_ (by dsimp only; omega) _) | (with_reducible refine Gr.trans ?_ (by with_reducible assumption)))); first | done | fail) (ho3.gr (by (repeat (first | (with_reducible exact Gr.refl _) | (with_reducible assumption) | (with_reducible refine Gr.alloc ?_ _) | (with_reducible refine Gr.drew ?_) | (with_reducible refine Gr.set ?_ (by dsimp only; omega) _) | (with_reducible refine Gr.trans ?_ (by with_reducible assumption)))); first | done | fail))).mono ?_; rintro e w5 ⟨⟨g5, k5, rfl, s5⟩, hg5⟩; have hl5 := sl_lt s5 n1; have hz5 := hg5.size; (try simp only [World.size_alloc] at hz5); (try (have bx5 := bx_cells (row_gr bx3 (Gr.trans (by (repeat (first | (with_reducible exact Gr.refl _) | (with_reducible assumption) | (with_reducible refine Gr.alloc ?_ _) | (with_reducible refine Gr.drew ?_) | (with_reducible refine Gr.set ?_ (by dsimp only; omega) _) | (with_reducible refine Gr.trans ?_ (by with_reducible assumption)))); first | done | fail) hg5)); obtain ⟨bc0, bc1, bc2, bf0, bf1, bf2⟩ := bx5; have hap := sl_apart s5 n1 bc0)); (try (have bx5 := bx_cells (row_gr (bx_new w3 rfl) (Gr.trans (by (repeat (first | (with_reducible exact Gr.refl _) | (with_reducible assumption) | (with_reducible refine Gr.alloc ?_ _) | (with_reducible refine Gr.drew ?_) | (with_reducible refine Gr.set ?_ (by dsimp only; omega) _) | (with_reducible refine Gr.trans ?_ (by with_reducible assumption)))); first | done | fail) hg5)); obtain ⟨bc0, bc1, bc2, bf0, bf1, bf2⟩ := bx5; have hap := sl_apart s5 n1 bc0))))
      all_goals
        go_wp2_with fail
        go_meet
      all_goals
        have hGe := (‹_ ∧ _ ∧ _ ∧ Gr w2 _›).2.2.2
      all_goals
        refine ⟨_, g5, k5, rfl, rfl, rfl, ⟨?_, ?_, ?_⟩, ?_, hGe⟩
      all_goals
        first
          | (repeat (first | (with_reducible assumption) | (with_reducible refine Sl.setF ?_ (by first | exact hap | (dsimp only; omega))) | (with_reducible refine Sl.allocF ?_) | (with_reducible refine Sl.drewF ?_))); done
          | (go_simp; done)
          | (go_simp; refine World.cell?_setCell_same' _ _ _ ?_; go_simp; done)
  case rest =>
    obtain ⟨BX, g5, k5, rfl, rfl, rfl, ⟨x1, x2, x3⟩, s5, hg3⟩ := hcut
    have hsm : sameTB W H N F W H N F = true := sameTB_of rfl fun _ _ => rfl
    replace c1 := cell_gr c1 hg3
    replace c2 := cell_gr c2 hg3
    replace c3 := cell_gr c3 hg3
    replace hsl := hsl.gr hg3
    have HSM := hide hsm
    clear hsm
    go_wp2_with (first | (go_at_call 7; refine (told3_any _).mono ?_; rintro e w7 ⟨rfl, hg7⟩; replace x1 := cell_gr x1 hg7; replace x2 := cell_gr x2 hg7; replace x3 := cell_gr x3 hg7; replace c1 := cell_gr c1 hg7; replace c2 := cell_gr c2 hg7; replace c3 := cell_gr c3 hg7) | (go_at_call 11; refine (rsameT_any _ _ _ _ _ _ _ _ _ _ F F _ (s5.gr hg7) (hsl.gr hg7)).mono ?_; rintro e w8 ⟨rfl, hg8⟩; rw [HSM.out]))
    go_ret
    exact ⟨ret_bool (by simp), ((hgr.trans hg3).trans hg7).trans hg8⟩

end Go.Proofs.YtcbcekgjpcpibaaDoor
