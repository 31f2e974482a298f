/- What a grid's getters answer, as they only read: behind them the world is as it was, but for draws. -/
import Derived.Test.YtgbadbkipaccgaaGreatBT
import Derived.Deep.CutRange
namespace Go.Proofs.YtgbadbkipaccgaaGreat
open Go.RowKit
set_option maxRecDepth 20000

/-- how many cells a sector has; how many sectors there are -/
def tnF (W H : Int) (s : Nat) : Nat := (twF W s * thF W H s).toNat
def cntS (W H : Int) : Nat := (countF W H).toNat
/-- the cell of a sector's local -/
def gcF (W : Int) (s l : Nat) : Nat := (globalF W s l).toNat
/-- a sector's costs -/
def tileF (W : Int) (s : Nat) (f : Nat → Int) (l : Nat) : Int := f (gcF W s l)

theorem sec_of {W H : Int} {s : Nat} (h : s < cntS W H) : isSectorB W H s = true := by
  rw [count_iff]
  unfold cntS at h
  omega
theorem cntS_eq {W H : Int} (hm : mayB W H = true) : (cntS W H : Int) = acrossF W * acrossF H ∧ 1 ≤ cntS W H ∧ cntS W H ≤ 4096 := by
  have := across_mul hm
  unfold cntS countF
  rw [if_pos hm]
  omega
theorem cntS_int (W H : Int) : (cntS W H : Int) = countF W H := by
  have := count_bd W H
  unfold cntS
  omega
theorem tnF_eq {W H : Int} {s : Nat} (hs : isSectorB W H s = true) : (tnF W H s : Int) = twF W s * thF W H s ∧ 1 ≤ tnF W H s ∧ tnF W H s ≤ 256 := by
  have := localB_mul hs
  unfold tnF
  omega
theorem gcF_eq {W H : Int} {s l : Nat} (hs : isSectorB W H s = true) (hl : l < tnF W H s) : (gcF W s l : Int) = globalF W s l ∧ isCellB W H (gcF W s l) = true ∧ sectorF W (gcF W s l) = s ∧ localF W (gcF W s l) = l := by
  have ht := tnF_eq hs
  have hl' : (l : Int) < twF W s * thF W H s := by omega
  have hc := (global_cell hs (by omega : (0 : Int) ≤ l) hl').1
  have h0 := ((isCellB_iff _ _ _).1 hc).2.1
  have e : (gcF W s l : Int) = globalF W s l := by unfold gcF; omega
  rw [e]
  exact ⟨rfl, hc, global_sector hs (by omega) hl', global_local hs (by omega) hl'⟩
theorem gcF_lt {W H : Int} {s l N : Nat} (hs : isSectorB W H s = true) (hl : l < tnF W H s) (hN : (N : Int) = W * H) : gcF W s l < N := by
  have := ((isCellB_iff _ _ _).1 (gcF_eq hs hl).2.1).2.2
  omega
/-- where a cell is: its sector and its local -/
theorem cell_at {W H : Int} {N c : Nat} (hm : mayB W H = true) (hN : (N : Int) = W * H) (hc : c < N) :
    ∃ s l, s < cntS W H ∧ l < tnF W H s ∧ sectorF W c = (s : Nat) ∧ localF W c = (l : Nat) ∧ gcF W s l = c := by
  have hk : isCellB W H c = true := by rw [isCellB_iff]; exact ⟨hm, by omega, by omega⟩
  obtain ⟨-, -, hs⟩ := sectorF_mod hk
  have hl := localF_bd hk
  have hb := global_back hk
  have hs' := (isSectorB_iff _ _ _).1 hs
  obtain ⟨s, e⟩ : ∃ s : Nat, sectorF W c = s := ⟨(sectorF W c).toNat, by omega⟩
  obtain ⟨l, e2⟩ : ∃ l : Nat, localF W c = l := ⟨(localF W c).toNat, by omega⟩
  rw [e] at hs hs' hl hb
  rw [e2] at hl hb
  refine ⟨s, l, ?_, ?_, e, e2, ?_⟩
  · have := (cntS_eq hm).1
    omega
  · have := (tnF_eq hs).1
    omega
  · unfold gcF
    rw [hb]
    omega

/-- which maps may be -/
def mayM (W H : Int) (n : Nat) (f : Nat → Int) : Bool := mayB W H && decide ((n : Int) = W * H) && fullB n f
theorem mayM_iff (W H : Int) (n : Nat) (f : Nat → Int) : mayM W H n f = true ↔ mayB W H = true ∧ (n : Int) = W * H ∧ ∀ i, i < n → f i ≠ 0 := by
  simp [mayM, fullB_iff, and_assoc]
theorem tile_may {W H : Int} {n s : Nat} {f : Nat → Int} (h : mayM W H n f = true) (hs : isSectorB W H s = true) : mayTB (twF W s) (thF W H s) (tnF W H s) (tileF W s f) = true := by
  obtain ⟨hm, hn, hf⟩ := (mayM_iff _ _ _ _).1 h
  have ht := tnF_eq hs
  have sb := size_bd hs
  rw [mayTB_iff]
  exact ⟨⟨by omega, by omega⟩, ⟨by omega, by omega⟩, ht.1, fun l hl => hf _ (gcF_lt hs hl hn)⟩

theorem tri_cells (w1 : World) (W H : Int) (v : Value) (t : TypeId) : (w1.alloc (.cells #[.int .i64 W, .int .i64 H, v] t)).cell? ⟨w1.heap.size, 0, none⟩ = some (.int .i64 W) ∧ (w1.alloc (.cells #[.int .i64 W, .int .i64 H, v] t)).cell? ⟨w1.heap.size, 1, none⟩ = some (.int .i64 H) ∧ (w1.alloc (.cells #[.int .i64 W, .int .i64 H, v] t)).cell? ⟨w1.heap.size, 2, none⟩ = some v := by
  refine ⟨?_, ?_, ?_⟩ <;> simp [go_sem]
theorem Sl.setF {w : World} {g n : Nat} {f : Nat → Int} {p : Addr} {v : Value} (h : Sl w (some ⟨g, 0, none⟩) n f) (hp : g ≠ p.block) : Sl (w.setCell p v) (some ⟨g, 0, none⟩) n f := by
  refine ⟨h.byte, ?_⟩
  rcases h.has with h0 | ⟨b, o, e, hb, hc⟩
  · exact .inl h0
  · cases e
    refine .inr ⟨_, _, rfl, by simpa [World.setCell] using hb, fun i hi => ?_⟩
    rw [World.cell?_of_block (w := w) (Below.heap_setCell w p v g hp)]
    exact hc i hi
theorem sl_apart {w : World} {g n q : Nat} {f : Nat → Int} {x : Int} (h : Sl w (some ⟨g, 0, none⟩) n f) (hn : 1 ≤ n) (hq : w.cell? ⟨q, 0, none⟩ = some (.int .i64 x)) : g ≠ q := by
  rintro rfl
  obtain ⟨b, o, e, _, hc⟩ := h.at (by omega)
  cases e
  have := hc 0 (by omega)
  rw [Nat.zero_add, hq] at this
  simp at this
theorem cell_far3 {w : World} {k o q : Nat} {v x y z : Value} (h : w.cell? ⟨k, o, none⟩ = some v) (hq : k ≠ q) : (((w.setCell ⟨q, 0, none⟩ x).setCell ⟨q, 1, none⟩ y).setCell ⟨q, 2, none⟩ z).cell? ⟨k, o, none⟩ = some v := by
  rw [World.cell?_setCell_far _ _ _ _ (by exact fun e => hq e.symm), World.cell?_setCell_far _ _ _ _ (by exact fun e => hq e.symm), World.cell?_setCell_far _ _ _ _ (by exact fun e => hq e.symm)]
  exact h
theorem gr_set3 {a w : World} {q : Nat} {x y z : Value} (h : Gr a w) (hq : a.heap.size ≤ q) : Gr a (((w.setCell ⟨q, 0, none⟩ x).setCell ⟨q, 1, none⟩ y).setCell ⟨q, 2, none⟩ z) :=
  ((h.set (p := ⟨q, 0, none⟩) hq _).set (p := ⟨q, 1, none⟩) hq _).set (p := ⟨q, 2, none⟩) hq _
theorem row_set3 {w : World} {b : Nat} {t : TypeId} {x y z u0 u1 u2 : Value} (h : w.rowIs b t 3 (tri x y z)) : (((w.setCell ⟨b, 0, none⟩ u0).setCell ⟨b, 1, none⟩ u1).setCell ⟨b, 2, none⟩ u2).rowIs b t 3 (tri u0 u1 u2) := by
  refine World.rowIs.congr (((h.set 0 u0).set 1 u1).set 2 u2) ?_
  intro i hi
  rcases (by omega : i = 0 ∨ i = 1 ∨ i = 2) with rfl | rfl | rfl <;> simp [tri]

set_option maxHeartbeats 1000000 in
theorem amay_any (W H : Int) (a : Option Addr) (n cap : Nat) (f : Nat → Int) (w : World) (h : Sl w a n f) :
    Calls Tryz.prog 59 #[.agg #[.int .i64 W, .int .i64 H, .slice a n cap]] w fun e w' => e = .returned (.bool (mayM W H n f)) ∧ Gr w w' := by
  cases hW : mayB W H
  · go_enter Tryz.func59, Tryz.ntmps59
    go_wp2_with (go_at_call 74; refine (may_any _ _ _).mono ?_; rintro e w' ⟨rfl, hd⟩; rw [hW])
    go_ret
    exact ⟨ret_bool (by simp [mayM, hW]), (by repeat (first | exact Gr.refl _ | assumption | exact Dr.gr (by assumption) | refine Gr.alloc ?_ _ | refine Gr.drewN ?_ _ | refine Gr.drew ?_ | refine Gr.trans ?_ (by assumption) | refine Gr.trans ?_ (Dr.gr (by assumption))))⟩
  have m := may_mul hW
  by_cases hn : (n : Int) = W * H
  · have HN := hide hn
    have hn' : ((n : Int) == W * H) = true := by simp [hn]
    clear hn
    go_enter Tryz.func59, Tryz.ntmps59
    go_wp2_with (first | (go_at_call 74; refine (may_any _ _ _).mono ?_; rintro e w1 ⟨rfl, hd⟩; rw [hW]; obtain ⟨ho, hf, hs⟩ := (Dr.gr hd).old) | (go_at_call 76; refine (indexByte_any _ _ _ f _ (h.gr (by repeat (first | exact Gr.refl _ | assumption | exact Dr.gr (by assumption) | refine Gr.alloc ?_ _ | refine Gr.drewN ?_ _ | refine Gr.drew ?_ | refine Gr.trans ?_ (by assumption) | refine Gr.trans ?_ (Dr.gr (by assumption)))))).mono ?_; rintro e w' ⟨⟨r, rfl, hr⟩, rfl⟩))
    go_ret
    exact ⟨ret_bool (by simp only [mayM, hW, HN.out, decide_true, Bool.and_true, Bool.true_and]), (by repeat (first | exact Gr.refl _ | assumption | exact Dr.gr (by assumption) | refine Gr.alloc ?_ _ | refine Gr.drewN ?_ _ | refine Gr.drew ?_ | refine Gr.trans ?_ (by assumption) | refine Gr.trans ?_ (Dr.gr (by assumption))))⟩
  · have hn' : ((n : Int) == W * H) = false := by simp [hn]
    go_enter Tryz.func59, Tryz.ntmps59
    go_wp2_with (go_at_call 74; refine (may_any _ _ _).mono ?_; rintro e w1 ⟨rfl, hd⟩; rw [hW]; obtain ⟨ho, hf, hs⟩ := (Dr.gr hd).old)
    go_ret
    exact ⟨ret_bool (by simp [mayM, hW, hn]), (by repeat (first | exact Gr.refl _ | assumption | exact Dr.gr (by assumption) | refine Gr.alloc ?_ _ | refine Gr.drewN ?_ _ | refine Gr.drew ?_ | refine Gr.trans ?_ (by assumption) | refine Gr.trans ?_ (Dr.gr (by assumption))))⟩

set_option maxHeartbeats 1000000 in
theorem rsameM_any (W H W' H' : Int) (a b : Option Addr) (n c m d : Nat) (f g : Nat → Int) (w : World) (h : Sl w a n f) (k : Sl w b m g) :
    Calls Tryz.prog 26 #[.agg #[.int .i64 W, .int .i64 H, .slice a n c], .agg #[.int .i64 W', .int .i64 H', .slice b m d]] w fun e w' => e = .returned (.bool (sameTB W H n f W' H' m g)) ∧ Gr w w' := by
  by_cases h1 : W = W'
  · have t1 : (W == W') = true := by simp [h1]
    by_cases h2 : H = H'
    · have t2 : (H == H') = true := by simp [h2]
      have H1 := hide h1
      have H2 := hide h2
      clear h1 h2
      go_enter Tryz.func26, Tryz.ntmps26
      go_wp2_with (go_at_call 55; refine (rbytes_any _ _ _ _ _ _ f g _ (h.gr (by repeat (first | exact Gr.refl _ | assumption | exact Dr.gr (by assumption) | refine Gr.alloc ?_ _ | refine Gr.drewN ?_ _ | refine Gr.drew ?_ | refine Gr.trans ?_ (by assumption) | refine Gr.trans ?_ (Dr.gr (by assumption))))) (k.gr (by repeat (first | exact Gr.refl _ | assumption | exact Dr.gr (by assumption) | refine Gr.alloc ?_ _ | refine Gr.drewN ?_ _ | refine Gr.drew ?_ | refine Gr.trans ?_ (by assumption) | refine Gr.trans ?_ (Dr.gr (by assumption)))))).mono ?_; rintro e w' ⟨rfl, rfl⟩)
      go_ret
      exact ⟨ret_bool (by simp [sameTB, H1.out, H2.out]), (by repeat (first | exact Gr.refl _ | assumption | exact Dr.gr (by assumption) | refine Gr.alloc ?_ _ | refine Gr.drewN ?_ _ | refine Gr.drew ?_ | refine Gr.trans ?_ (by assumption) | refine Gr.trans ?_ (Dr.gr (by assumption))))⟩
    · have t2 : (H == H') = false := by simp [h2]
      have H1 := hide h1
      have H2 := hide h2
      clear h1 h2
      go_enter Tryz.func26, Tryz.ntmps26
      go_wp2
      go_ret
      exact ⟨ret_bool (by simp [sameTB, H2.out]), (by repeat (first | exact Gr.refl _ | assumption | exact Dr.gr (by assumption) | refine Gr.alloc ?_ _ | refine Gr.drewN ?_ _ | refine Gr.drew ?_ | refine Gr.trans ?_ (by assumption) | refine Gr.trans ?_ (Dr.gr (by assumption))))⟩
  · have t1 : (W == W') = false := by simp [h1]
    have H1 := hide h1
    clear h1
    go_enter Tryz.func26, Tryz.ntmps26
    go_wp2
    go_ret
    exact ⟨ret_bool (by simp [sameTB, H1.out]), (by repeat (first | exact Gr.refl _ | assumption | exact Dr.gr (by assumption) | refine Gr.alloc ?_ _ | refine Gr.drewN ?_ _ | refine Gr.drew ?_ | refine Gr.trans ?_ (by assumption) | refine Gr.trans ?_ (Dr.gr (by assumption))))⟩

set_option maxHeartbeats 2000000 in
theorem ownMap_any (W H : Int) (a : Option Addr) (n cap : Nat) (f : Nat → Int) (w : World) (h : Sl w a n f) (hbig : n ≤ 140737488355328) (ha : a = none → n = 0 ∧ cap = 0) :
    Calls Tryz.prog 54 #[.agg #[.int .i64 W, .int .i64 H, .slice a n cap]] w fun e w' => (∃ g c', e = .returned (.agg #[.int .i64 W, .int .i64 H, .slice (some ⟨g, 0, none⟩) n c']) ∧ OwnB w' w.heap.size g n c' f) ∧ Gr w w' := by
  obtain ⟨i0, hi, hz0, hz1, hz2⟩ := info_parts info_u8
  have hbyte := hide h.byte
  cases a with
  | none =>
    obtain ⟨rfl, rfl⟩ := ha rfl
    have h0 : ((((w.alloc (.cells #[.int .i64 W, .int .i64 H, .slice (some ⟨w.heap.size + 1 + 1, 0, none⟩) 0 0] 24)).alloc (.cells #[.int .i64 W, .int .i64 H, .slice (some ⟨w.heap.size + 1 + 1, 0, none⟩) 0 0] 24)).alloc (.cells #[] 5))).ownsRow w.heap.size 5 1 (.slice (some ⟨w.heap.size + 1 + 1, 0, none⟩) 0 0) 0 [] := by
      have := World.ownsRow_made (base := w.heap.size) (e := 5) (size := 1) ((w.alloc (.cells #[.int .i64 W, .int .i64 H, .slice (some ⟨w.heap.size + 1 + 1, 0, none⟩) 0 0] 24)).alloc (.cells #[.int .i64 W, .int .i64 H, .slice (some ⟨w.heap.size + 1 + 1, 0, none⟩) 0 0] 24)) #[] 0 (by simp only [World.size_alloc]; omega) (Nat.zero_le _) rfl
      simpa only [World.size_alloc] using this
    have H0 := hide h0
    clear h0
    go_enter Tryz.func54, Tryz.ntmps54
    go_wp2
    exact bodyPost_ret (v := .agg #[.int .i64 W, .int .i64 H, .slice (some ⟨w.heap.size + 1 + 1, 0, none⟩) 0 0]) (by simp [results, Tryz.results54, go_sem]) rfl ⟨⟨_, _, rfl, H0.out, hbyte.out⟩, (by repeat (first | exact Gr.refl _ | assumption | exact Dr.gr (by assumption) | refine Gr.alloc ?_ _ | refine Gr.drewN ?_ _ | refine Gr.drew ?_ | refine Gr.trans ?_ (by assumption) | refine Gr.trans ?_ (Dr.gr (by assumption))))⟩
  | some ad =>
    obtain ⟨ad', hc⟩ : ∃ ad' : Addr, some ad = some ad' ∧ ∀ w', Gr w w' → ∀ j u, (cel .u8 n f)[j]? = some u → w'.cell? (ad'.add j) = some u := by
      rcases h.has with h0 | ⟨b, o, e, hB, hc⟩
      · exact ⟨ad, rfl, fun w' g j u hj => by subst h0; simp [cel] at hj⟩
      · exact ⟨⟨b, o, none⟩, e, fun w' g => cel_at hc hB g⟩
    obtain ⟨e, hc⟩ := hc
    cases e
    have HC := hide hc
    clear hc
    have h0 : (((w.alloc (.cells #[.int .i64 W, .int .i64 H, .slice (some ad) n cap] 24)).alloc (.cells #[.int .i64 0, .int .i64 0, .slice none 0 0] 24)).alloc (.cells #[] 5)).ownsRow (w.heap.size + 2) 5 1 (.slice (some ⟨w.heap.size + 1 + 1, 0, none⟩) 0 0) 0 [] := by
      have := World.ownsRow_made (base := w.heap.size + 2) (e := 5) (size := 1) ((w.alloc (.cells #[.int .i64 W, .int .i64 H, .slice (some ad) n cap] 24)).alloc (.cells #[.int .i64 0, .int .i64 0, .slice none 0 0] 24)) #[] 0 (by simp only [World.size_alloc]; omega) (Nat.zero_le _) rfl
      simpa only [World.size_alloc] using this
    have H0 := hide h0
    clear h0
    go_enter Tryz.func54, Tryz.ntmps54
    go_wp2_with (at_builtin; go_must (refine wpList_append_own _ rfl _ _ 22 rfl (w.heap.size + 2) 5 i0 (.int .u8 0) 1 1 Tryz.underlying22 hi hz0 hz1 hz2 rfl (by decide) (.slice (some ⟨w.heap.size + 1 + 1, 0, none⟩) 0 0) _ _ rfl H0.out ad n cap (cel .u8 n f) rfl (by simp [cel_len]) (HC.out _ (by repeat (first | exact Gr.refl _ | assumption | exact Dr.gr (by assumption) | refine Gr.alloc ?_ _ | refine Gr.drewN ?_ _ | refine Gr.drew ?_ | refine Gr.trans ?_ (by assumption) | refine Gr.trans ?_ (Dr.gr (by assumption))))) (cel_one _ _ _) (by unfold maxLen; omega) (by omega) (by simp only [World.size_alloc]; omega) ?_; intro v' w1 hown hgrow hnil); go_must (have hgr := Gr.grown (a := (w.alloc (.cells #[.int .i64 W, .int .i64 H, .slice (some ad) n cap] 24)).alloc (.cells #[.int .i64 0, .int .i64 0, .slice none 0 0] 24)) (by repeat (first | exact Gr.refl _ | assumption | exact Dr.gr (by assumption) | refine Gr.alloc ?_ _ | refine Gr.drewN ?_ _ | refine Gr.drew ?_ | refine Gr.trans ?_ (by assumption) | refine Gr.trans ?_ (Dr.gr (by assumption)))) hgrow (fun k hk => (by have hk' : w.heap.size + 1 + 1 = k := Option.some.inj hk; simp only [World.size_alloc]; omega))); obtain ⟨ho, hf, hs⟩ := hgr.old; go_must (obtain ⟨g, c', rfl, hown', hge⟩ := own_some hown hnil (by simp)); clear hown hnil; go_must (have hcB : (w1.setCell ⟨w.heap.size, 2, none⟩ (.slice (some ⟨g, 0, none⟩) n c')).cell? ⟨w.heap.size, 2, none⟩ = some (.slice (some ⟨g, 0, none⟩) n c') := World.cell?_setCell_same _ _ _ (u := .slice (some ad) n cap) (by rw [ho _ _ (by simp only [World.size_alloc]; omega)]; simp [go_sem])))
    exact bodyPost_ret (v := .agg #[.int .i64 W, .int .i64 H, .slice (some ⟨g, 0, none⟩) n c']) (by simp [results, Tryz.results54, go_sem, ho]) rfl ⟨⟨g, c', rfl, ownTile_end hbyte.out hown' (by omega) _ _ _ _⟩, (by repeat (first | exact Gr.refl _ | assumption | exact Dr.gr (by assumption) | refine Gr.alloc ?_ _ | refine Gr.drewN ?_ _ | refine Gr.drew ?_ | (refine Gr.set ?_ (by first | exact Nat.le_refl _ | exact Nat.le_succ _ | (show _ ≤ _; omega) | (simp only [World.size_alloc] at *; omega)) _) | refine Gr.trans ?_ (by assumption) | refine Gr.trans ?_ (Dr.gr (by assumption))))⟩

set_option maxHeartbeats 4000000 in
set_option maxRecDepth 20000 in
theorem made_any (x y : Int) (ad : Option Addr) (n cap : Nat) (f : Nat → Int) (w : World) (h : Sl w ad n f) (hn : n ≤ maxLen) :
    Calls Tryz.prog 29 #[.int .i64 x, .int .i64 y, .slice ad n cap] w fun e w' => (∃ g c' N : Nat, e = .returned (.agg #[.int .i64 (withinF x 1 40), .int .i64 (withinF y 1 40), .slice (some ⟨g, 0, none⟩) N c']) ∧ (N : Int) = withinF x 1 40 * withinF y 1 40 ∧ OwnB w' w.heap.size g N c' (madeF n f)) ∧ Gr w w' := by
  obtain ⟨i0, hi, hz0, hz1, hz2⟩ := info_parts info_u8
  have HB : Hid (∀ i, 1 ≤ madeF n f i ∧ madeF n f i ≤ 255) := hide (madeF_bd h.byte)
  unfold maxLen at hn
  obtain ⟨W, hW⟩ : ∃ W, W = withinF x 1 40 := ⟨_, rfl⟩
  obtain ⟨H, hH⟩ : ∃ H, H = withinF y 1 40 := ⟨_, rfl⟩
  have xb := within_bd x 1 40 (by omega)
  have yb := within_bd y 1 40 (by omega)
  rw [← hW] at xb ⊢
  rw [← hH] at yb ⊢
  have HW := hide hW
  have HH := hide hH
  clear hW hH
  have mb := mul_bd (w := W) (h := H) (W := 40) (H := 40) (by omega) (by omega) (by omega) (by omega)
  have mc := Int.mul_le_mul xb.1 yb.1 (by omega) (by omega : (0 : Int) ≤ W)
  obtain ⟨N, hN⟩ : ∃ N : Nat, W * H = N := ⟨(W * H).toNat, by omega⟩
  have hN1 : 1 ≤ N ∧ N ≤ 1600 := by omega
  go_enter Tryz.func29, Tryz.ntmps29
  go_wp2_with fail
  refine (within_st _ _ _ _ (by omega) (by omega) (by omega)).mono ?_
  rintro e w1 ⟨rfl, rfl⟩
  rw [← HW.out]
  go_wp2_with fail
  refine (within_st _ _ _ _ (by omega) (by omega) (by omega)).mono ?_
  rintro e w1 ⟨rfl, rfl⟩
  rw [← HH.out]
  go_wp2_with fail
  have s0 : ((w.alloc (.cells #[.int .i64 0, .int .i64 0, .slice none 0 0] 24)).alloc (.cells #[.int .i64 W, .int .i64 H, .slice none 0 0] 24)).rowIs (w.heap.size + 1) 24 3 (tri (.int .i64 W) (.int .i64 H) (.slice none 0 0)) := by
    have := tri_alloc (w.alloc (.cells #[.int .i64 0, .int .i64 0, .slice none 0 0] 24)) (.int .i64 W) (.int .i64 H) (.slice none 0 0) 24
    rwa [World.size_alloc] at this
  have s1 := (tri_alloc w (.int .i64 0) (.int .i64 0) (.slice none 0 0) 24).alloc (.cells #[.int .i64 W, .int .i64 H, .slice none 0 0] 24)
  go_loopw [8] (fun i u => ∃ (k : Nat) (a0 : Option Addr) (c0 : Nat), k ≤ N ∧ i = .int .i64 k ∧ u.ownsRow (w.heap.size + 2) 5 1 (.slice a0 k c0) k (cel .u8 k (madeF n f)) ∧ u.rowIs (w.heap.size + 1) 24 3 (tri (.int .i64 W) (.int .i64 H) (.slice a0 k c0)) ∧ u.rowIs w.heap.size 24 3 (tri (.int .i64 0) (.int .i64 0) (.slice none 0 0)) ∧ Gr w u) (fun i _ => N - (intOf i).toNat)
  case atStart => exact ⟨0, none, 0, Nat.zero_le _, rfl, World.ownsRow_nil _ _ _ _, s0, s1, (by repeat (first | exact Gr.refl _ | assumption | exact Dr.gr (by assumption) | refine Gr.alloc ?_ _ | refine Gr.drewN ?_ _ | refine Gr.drew ?_ | refine Gr.trans ?_ (by assumption) | refine Gr.trans ?_ (Dr.gr (by assumption))))⟩
  case round =>
    clear s0 s1
    obtain ⟨k, a0, c0, hk, rfl, hown, hr1, hr0, hgr⟩ := hrel
    have c1 := hr1.cell (i := 0) (by omega)
    have c2 := hr1.cell (i := 1) (by omega)
    have c3 := hr1.cell (i := 2) (by omega)
    have f3 := hr1.frozen 2
    rw [tri_0] at c1
    rw [tri_1] at c2
    rw [tri_2] at c3
    have hsz := hr1.lt
    have hsz0 := hr0.lt
    by_cases hlt : k < N
    · by_cases hn0 : n = 0
      · subst hn0
        have hb := HB.out k
        obtain ⟨p, hp1⟩ : ∃ p : Int, p = 1 := ⟨_, rfl⟩
        have E : Hid (madeF 0 f k = costF p) := hide (by rw [hp1]; simp [madeF])
        have hp : 0 ≤ p ∧ p ≤ 255 := by omega
        have HP := hide hp1.symm
        clear hp1
        have HO := hide hown
        have HR1 := hide hr1
        have HR0 := hide hr0
        clear hown hr1 hr0
        go_wp2
        rw [HP.out]
        go_region_law (first | (refine step_append_own rfl (.tmp 41) (.tmp 44) 22 rfl (w.heap.size + 2) 5 i0 (.int .u8 0) 1 1 Tryz.underlying22 hi hz0 hz1 hz2 rfl (by decide) (.slice a0 k c0) k _ (by simp [Act.eval]) (own_gr HO.out (by repeat (first | exact Gr.refl _ | assumption | exact Dr.gr (by assumption) | refine Gr.alloc ?_ _ | refine Gr.drewN ?_ _ | refine Gr.drew ?_ | refine Gr.trans ?_ (by assumption) | refine Gr.trans ?_ (Dr.gr (by assumption))))) ⟨wr.heap.size, 0, none⟩ 1 1 [.int .u8 (costF p)] (by simp [Act.eval]) rfl (alloc_one wr _ _) (by simp [Value.oneCell']) (by unfold maxLen; omega) (by omega) (Nat.le_trans (show w.heap.size + 2 ≤ wr.heap.size + 1 by have := HR1.out.lt; omega) (Nat.le_of_eq (World.size_alloc wr _).symm)) ?_; intro v' w1 hown' hgrow; obtain ⟨a1, c1', rfl, hown1, hq1, hq0, hgr1⟩ := made_step HO.out HR1.out HR0.out hgr rfl (by repeat (first | exact Gr.refl _ | assumption | exact Dr.gr (by assumption) | refine Gr.alloc ?_ _ | refine Gr.drewN ?_ _ | refine Gr.drew ?_ | refine Gr.trans ?_ (by assumption) | refine Gr.trans ?_ (Dr.gr (by assumption)))) hown' hgrow E.out; have d3 := hq1.cell (i := 2) (by omega); rw [tri_2] at d3; have g3 := hq1.frozen 2; clear hown' hgrow) | (go_simp; go_wp2_with (go_at_call 58; refine (cost_any _ _ hp).mono ?_; rintro e w' ⟨rfl, rfl⟩)))
        all_goals
          go_wp2
          go_roundw
          case rel => exact ⟨k + 1, a1, c1', by omega, by go_num, made_next hown1 hq1 hq0 hgr1 rfl⟩
          case measure => simp [intOf]; omega
      · obtain ⟨b, o, rfl, hB, hc⟩ := h.at (by omega)
        obtain ⟨q, hq⟩ : ∃ q : Nat, q = (k + k / n * 5) % n := ⟨_, rfl⟩
        have hqn : q < n := by rw [hq]; exact Nat.mod_lt _ (by omega)
        obtain ⟨p, hp1⟩ : ∃ p : Int, p = f q := ⟨_, rfl⟩
        have E : Hid (madeF n f k = costF p) := hide (by rw [hp1, hq]; simp [madeF, hn0])
        have hp : 0 ≤ p ∧ p ≤ 255 := by rw [hp1]; exact h.byte q hqn
        have hcq : wr.cell? ⟨b, o + q, none⟩ = some (.int .u8 p) := by rw [hgr.cell b _ hB, hc q hqn, hp1]
        have hqI : ((k : Int) + (k : Int) / (n : Int) * 5) % (n : Int) = (q : Int) := by rw [hq]; push_cast; rfl
        have hd1 : 0 ≤ (k : Int) / (n : Int) := Int.ediv_nonneg (by omega) (by omega)
        have hd2 : (k : Int) / (n : Int) ≤ k := Int.ediv_le_self _ (by omega)
        have HO := hide hown
        have HR1 := hide hr1
        have HR0 := hide hr0
        have hn1 : ¬ (n : Int) = 0 := by omega
        clear hown hr1 hr0 hc hp1 hq hn0
        go_wp2
        go_region_law (first | (refine step_append_own rfl (.tmp 41) (.tmp 44) 22 rfl (w.heap.size + 2) 5 i0 (.int .u8 0) 1 1 Tryz.underlying22 hi hz0 hz1 hz2 rfl (by decide) (.slice a0 k c0) k _ (by simp [Act.eval]) (own_gr HO.out (by repeat (first | exact Gr.refl _ | assumption | exact Dr.gr (by assumption) | refine Gr.alloc ?_ _ | refine Gr.drewN ?_ _ | refine Gr.drew ?_ | refine Gr.trans ?_ (by assumption) | refine Gr.trans ?_ (Dr.gr (by assumption))))) ⟨wr.heap.size, 0, none⟩ 1 1 [.int .u8 (costF p)] (by simp [Act.eval]) rfl (alloc_one wr _ _) (by simp [Value.oneCell']) (by unfold maxLen; omega) (by omega) (Nat.le_trans (show w.heap.size + 2 ≤ wr.heap.size + 1 by have := HR1.out.lt; omega) (Nat.le_of_eq (World.size_alloc wr _).symm)) ?_; intro v' w1 hown' hgrow; obtain ⟨a1, c1', rfl, hown1, hq1, hq0, hgr1⟩ := made_step HO.out HR1.out HR0.out hgr rfl (by repeat (first | exact Gr.refl _ | assumption | exact Dr.gr (by assumption) | refine Gr.alloc ?_ _ | refine Gr.drewN ?_ _ | refine Gr.drew ?_ | refine Gr.trans ?_ (by assumption) | refine Gr.trans ?_ (Dr.gr (by assumption)))) hown' hgrow E.out; have d3 := hq1.cell (i := 2) (by omega); rw [tri_2] at d3; have g3 := hq1.frozen 2; clear hown' hgrow) | (go_simp; go_wp2_with (go_at_call 58; refine (cost_any _ _ hp).mono ?_; rintro e w' ⟨rfl, rfl⟩)))
        all_goals
          go_wp2
          go_roundw
          case rel => exact ⟨k + 1, a1, c1', by omega, by go_num, made_next hown1 hq1 hq0 hgr1 rfl⟩
          case measure => simp [intOf]; omega
    · have hkN : k = N := by omega
      subst hkN
      obtain ⟨g, rfl, hend⟩ := made_end hown (by omega) HB.out (Nat.le_refl _) (.int .i64 W) (.int .i64 H) (.slice a0 k c0)
      have e1 := hr0.cell (i := 0) (by omega)
      have e2 := hr0.cell (i := 1) (by omega)
      have e3 := hr0.cell (i := 2) (by omega)
      have j1 := hr0.frozen 0
      have j2 := hr0.frozen 1
      have j3 := hr0.frozen 2
      rw [tri_0] at e1
      rw [tri_1] at e2
      rw [tri_2] at e3
      clear hr0 hr1 hown
      go_wp2
      exact bodyPost_ret (v := .agg #[.int .i64 W, .int .i64 H, .slice (some ⟨g, 0, none⟩) k c0]) (by simp [results, Tryz.results29, go_sem, e1, e2, e3]) rfl ⟨⟨g, c0, k, rfl, hN.symm, hend⟩, (by repeat (first | exact Gr.refl _ | assumption | exact Dr.gr (by assumption) | refine Gr.alloc ?_ _ | refine Gr.drewN ?_ _ | refine Gr.drew ?_ | (refine Gr.set ?_ (by first | exact Nat.le_refl _ | exact Nat.le_succ _ | (show _ ≤ _; omega) | (simp only [World.size_alloc] at *; omega)) _) | refine Gr.trans ?_ (by assumption) | refine Gr.trans ?_ (Dr.gr (by assumption))))⟩

theorem froz_gr {u u' : World} {b o : Nat} {v : Value} (hc : u.cell? ⟨b, o, none⟩ = some v) (h : u.frozen? ⟨b, o, none⟩ = false) (g : Gr u u') : u'.frozen? ⟨b, o, none⟩ = false := by
  rw [g.frozen b o (World.block_lt_of_cell? u ⟨b, o, none⟩ hc)]
  exact h
theorem cel_plus {k : IntKind} {n m : Nat} {f g : Nat → Int} (h : ∀ j, j < m → g j = f (n + j)) : cel k n f ++ cel k m g = cel k (n + m) f := by
  unfold cel
  rw [List.range_add, List.map_append, List.map_map]
  congr 1
  exact List.map_congr_left fun j hj => by rw [h j (List.mem_range.1 hj)]; rfl
/-- a make of nothing, with room -/
theorem make_room (c : Nat) (hc : c ≤ 2000000) (w : World) : (Instr.makeSlice 22 (.int .i64 0) (.int .i64 (c : Int))).run Tryz.prog w = .ok (.slice (some ⟨w.heap.size, 0, none⟩) 0 c) (w.alloc (.cells (madeCells #[.int .u8 0] c) 5)) := by
  obtain ⟨i0, hi, hz0, hz1, hz2⟩ := info_parts info_u8
  have hr := run_make (P := Tryz.prog) w 22 5 i0 (.int .u8 0) Tryz.underlying22 hi hz0 .i64 .i64 0 c (by omega) (by omega) (by rw [hz2]; omega) (by omega)
  simp only [Int.toNat_natCast, hz1, Nat.mul_one] at hr
  exact hr
theorem own_set3 {w : World} {base g n c B : Nat} {xs : List Value} {x y z : Value} {e : TypeId} (h : w.ownsRow base e 1 (.slice (some ⟨g, 0, none⟩) n c) n xs) (hB : B < base) : (((w.setCell ⟨B, 0, none⟩ x).setCell ⟨B, 1, none⟩ y).setCell ⟨B, 2, none⟩ z).ownsRow base e 1 (.slice (some ⟨g, 0, none⟩) n c) n xs :=
  ownsRow_setCell_below (ownsRow_setCell_below (ownsRow_setCell_below h (a := ⟨B, 0, none⟩) hB x) (a := ⟨B, 1, none⟩) hB y) (a := ⟨B, 2, none⟩) hB z
/-- the cells of a row of a sector lie one behind the other -/
theorem gc_row {W H : Int} {s r j TW TH : Nat} (hs : isSectorB W H s = true) (h1 : twF W s = TW) (h2 : thF W H s = TH) (hr : r < TH) (hj : j < TW) : gcF W s (r * TW + j) = gcF W s (r * TW) + j ∧ r * TW + j < tnF W H s := by
  have ht := tnF_eq hs
  have hlt : r * TW + j < TW * TH := by
    have : (r + 1) * TW ≤ TH * TW := Nat.mul_le_mul_right _ hr
    rw [Nat.mul_comm TW TH]
    rw [Nat.add_mul] at this
    omega
  have htn : tnF W H s = TW * TH := by
    have := ht.1
    rw [h1, h2, ← Int.natCast_mul] at this
    omega
  refine ⟨?_, by omega⟩
  have e1 := (gcF_eq hs (l := r * TW + j) (by omega)).1
  have e0 := (gcF_eq hs (l := r * TW) (by omega)).1
  unfold globalF at e0 e1
  rw [h1] at e0 e1
  have d1 : ((r * TW + j : Nat) : Int) / (TW : Int) = r := by
    rw [← Int.natCast_ediv, Nat.mul_comm, Nat.mul_add_div (by omega), Nat.div_eq_of_lt hj, Nat.add_zero]
  have m1 : ((r * TW + j : Nat) : Int) % (TW : Int) = j := by
    rw [← Int.natCast_emod, Nat.mul_comm, Nat.mul_add_mod, Nat.mod_eq_of_lt hj]
  have d0 : ((r * TW : Nat) : Int) / (TW : Int) = r := by
    rw [← Int.natCast_ediv, Nat.mul_div_cancel _ (by omega)]
  have m0 : ((r * TW : Nat) : Int) % (TW : Int) = 0 := by
    rw [← Int.natCast_emod, Nat.mul_mod_left]; rfl
  rw [d1, m1] at e1
  rw [d0, m0] at e0
  omega

/-- a struct's box, and behind it one that is empty yet -/
theorem two_boxes (w : World) (W H : Int) (v : Value) (t t' : TypeId) : ((w.alloc (.cells #[.int .i64 W, .int .i64 H, v] t)).alloc (.cells #[.int .i64 0, .int .i64 0, .slice none 0 0] t')).rowIs w.heap.size t 3 (tri (.int .i64 W) (.int .i64 H) v) ∧
    ((w.alloc (.cells #[.int .i64 W, .int .i64 H, v] t)).alloc (.cells #[.int .i64 0, .int .i64 0, .slice none 0 0] t')).rowIs (w.heap.size + 1) t' 3 (tri (.int .i64 0) (.int .i64 0) (.slice none 0 0)) ∧ ((w.alloc (.cells #[.int .i64 W, .int .i64 H, v] t)).alloc (.cells #[.int .i64 0, .int .i64 0, .slice none 0 0] t')).heap.size = w.heap.size + 2 ∧
    Gr w ((w.alloc (.cells #[.int .i64 W, .int .i64 H, v] t)).alloc (.cells #[.int .i64 0, .int .i64 0, .slice none 0 0] t')) := by
  refine ⟨(tri_alloc w _ _ _ t).alloc _, ?_, by simp only [World.size_alloc], ((Gr.refl w).alloc _).alloc _⟩
  have := tri_alloc (w.alloc (.cells #[.int .i64 W, .int .i64 H, v] t)) (.int .i64 0) (.int .i64 0) (.slice none 0 0) t'
  rwa [World.size_alloc] at this
/-- the three cells of a box, and that none is frozen -/
theorem row_cells {w : World} {b : Nat} {t : TypeId} {x y z : Value} (h : w.rowIs b t 3 (tri x y z)) : w.cell? ⟨b, 0, none⟩ = some x ∧ w.cell? ⟨b, 1, none⟩ = some y ∧ w.cell? ⟨b, 2, none⟩ = some z ∧ w.frozen? ⟨b, 0, none⟩ = false ∧ w.frozen? ⟨b, 1, none⟩ = false ∧ w.frozen? ⟨b, 2, none⟩ = false :=
  ⟨h.cell (i := 0) (by omega), h.cell (i := 1) (by omega), h.cell (i := 2) (by omega), h.frozen 0, h.frozen 1, h.frozen 2⟩
theorem cut_next {w1 u U : World} {base k m g c : Nat} {v' : Value} {f t : Nat → Int} (h : w1.ownsRow base 5 1 v' (k + m) (cel .u8 k f ++ cel .u8 m t)) (hm : 0 < m) (ht : ∀ j, j < m → t j = f (k + j)) (hg : u.grownBy w1 (Value.slice (some ⟨g, 0, none⟩) k c).ownBlock) (h0 : Gr U u) (hgb : U.heap.size ≤ g) :
    ∃ g' c', v' = .slice (some ⟨g', 0, none⟩) (k + m) c' ∧ w1.ownsRow base 5 1 (.slice (some ⟨g', 0, none⟩) (k + m) c') (k + m) (cel .u8 (k + m) f) ∧ base ≤ g' ∧ Gr U w1 := by
  rw [cel_plus ht] at h
  rcases h.2 with ⟨_, h0'⟩ | ⟨g', cap, cur, rfl, hb', r⟩
  · omega
  · refine ⟨g', cap, rfl, h, hb', Gr.grown h0 hg ?_⟩
    intro j hj
    simp [Value.ownBlock] at hj
    omega
theorem cel_from {w u : World} {b o n q m : Nat} {f : Nat → Int} (h : Sl w (some ⟨b, o, none⟩) n f) (hq : q + m ≤ n) (g : Gr w u) : ∀ j v, (cel .u8 m (fun i => f (q + i)))[j]? = some v → u.cell? ((⟨b, o + q, none⟩ : Addr).add j) = some v := by
  by_cases hn : n = 0
  · intro j v hj
    have := (List.getElem?_eq_some_iff.1 hj).1
    rw [cel_len] at this
    omega
  obtain ⟨b', o', e, hB, hc⟩ := h.at (by omega)
  cases e
  refine cel_at (fun i hi => ?_) hB g
  rw [Nat.add_assoc]
  exact hc (q + i) (by omega)

theorem Kp.own {S : Nat → Prop} {w w' : World} (k : Kp S w w') {base g n c : Nat} {f : Nat → Int} (h : OwnB w base g n c f) (hb : ¬ S g) : OwnB w' base g n c f := by
  refine ⟨⟨h.own.1, ?_⟩, h.byte⟩
  rcases h.own.2 with ⟨e, _⟩ | ⟨b, cap, cur, e, hb', hg, r⟩
  · cases e
  · cases e
    exact .inr ⟨g, c, cur, rfl, hb', (k.block g (Array.getElem?_eq_some_iff.1 hg).1 hb).trans hg, r⟩

/-- block b holds at least n cells of type t, none frozen, that read as f -/
def Row (w : World) (b : Nat) (t : TypeId) (k : IntKind) (n : Nat) (f : Nat → Int) : Prop := ∃ m g, n ≤ m ∧ w.rowIs b t m g ∧ ∀ i, i < n → g i = .int k (f i)
theorem Row.cell {w : World} {b : Nat} {t : TypeId} {k : IntKind} {n : Nat} {f : Nat → Int} (h : Row w b t k n f) {i : Nat} (hi : i < n) : w.cell? ⟨b, i, none⟩ = some (.int k (f i)) := by
  obtain ⟨m, g, hm, hr, hg⟩ := h
  rw [hr.cell (i := i) (by omega), hg i hi]
theorem Row.frozen {w : World} {b : Nat} {t : TypeId} {k : IntKind} {n : Nat} {f : Nat → Int} (h : Row w b t k n f) (i : Nat) : w.frozen? ⟨b, i, none⟩ = false := by
  obtain ⟨m, g, hm, hr, hg⟩ := h
  exact hr.frozen i
theorem Row.lt {w : World} {b : Nat} {t : TypeId} {k : IntKind} {n : Nat} {f : Nat → Int} (h : Row w b t k n f) : b < w.heap.size := by
  obtain ⟨m, g, hm, hr, hg⟩ := h
  exact hr.lt
theorem Row.of_block {w w' : World} {b : Nat} {t : TypeId} {k : IntKind} {n : Nat} {f : Nat → Int} (h : Row w b t k n f) (e : w'.heap[b]? = w.heap[b]?) : Row w' b t k n f := by
  obtain ⟨m, g, hm, hr, hg⟩ := h
  exact ⟨m, g, hm, hr.of_block e, hg⟩
theorem Row.gr {w w' : World} {b : Nat} {t : TypeId} {k : IntKind} {n : Nat} {f : Nat → Int} (h : Row w b t k n f) (g : Gr w w') : Row w' b t k n f := h.of_block (Below.block g b h.lt)
theorem Row.kp {S : Nat → Prop} {w w' : World} {b : Nat} {t : TypeId} {k : IntKind} {n : Nat} {f : Nat → Int} (h : Row w b t k n f) (g : Kp S w w') (hb : ¬ S b) : Row w' b t k n f := h.of_block (g.block b h.lt hb)
theorem Row.set {w : World} {b : Nat} {t : TypeId} {k : IntKind} {n : Nat} {f : Nat → Int} (h : Row w b t k n f) (i : Nat) (x : Int) : Row (w.setCell ⟨b, i, none⟩ (.int k x)) b t k n (fun j => if j = i then x else f j) := by
  obtain ⟨m, g, hm, hr, hg⟩ := h
  refine ⟨m, _, hm, hr.set i _, fun j hj => ?_⟩
  by_cases e : j = i
  · simp [e]
  · simp only [if_neg e, hg j hj]
theorem Row.setOther {w : World} {b : Nat} {t : TypeId} {k : IntKind} {n : Nat} {f : Nat → Int} (h : Row w b t k n f) {a : Addr} (ha : b ≠ a.block) (v : Value) : Row (w.setCell a v) b t k n f := by
  obtain ⟨m, g, hm, hr, hg⟩ := h
  exact ⟨m, g, hm, hr.setOther ha v, hg⟩
theorem Row.congr {w : World} {b : Nat} {t : TypeId} {k : IntKind} {n : Nat} {f g : Nat → Int} (h : Row w b t k n f) (e : ∀ i, i < n → f i = g i) : Row w b t k n g := by
  obtain ⟨m, q, hm, hr, hg⟩ := h
  exact ⟨m, q, hm, hr, fun i hi => by rw [hg i hi, e i hi]⟩
theorem Row.of_is {w : World} {b : Nat} {t : TypeId} {k : IntKind} {n : Nat} {f : Nat → Int} (h : w.rowIs b t n (fun i => .int k (f i))) : Row w b t k n f := ⟨n, _, Nat.le_refl _, h, fun _ _ => rfl⟩
theorem Row.of_own {w : World} {base g c : Nat} {e : TypeId} {n : Nat} {k : IntKind} {f : Nat → Int} (h : w.ownsRow base e 1 (.slice (some ⟨g, 0, none⟩) n c) n (cel k n f)) : Row w g e k n f := by
  rcases h.2 with ⟨q, _⟩ | ⟨b, cap, cur, q, hb, hg, hn, hm, hs, ht⟩
  · cases q
  · cases q
    refine ⟨cur.size, fun i => cur[i]?.getD .nilIface, by omega, ⟨cur, hg, rfl, fun i hi => ?_⟩, fun i hi => ?_⟩
    · simp [hi]
    · have e := congrArg (fun l => l[i]?) ht
      simp only [cel_get _ _ _ hi, List.getElem?_take, Nat.mul_one, hi, if_true, Array.getElem?_toList] at e
      show cur[i]?.getD Value.nilIface = _
      rw [e]; rfl
theorem Row.sl {w : World} {b : Nat} {t : TypeId} {n : Nat} {f : Nat → Int} (h : Row w b t .u8 n f) (hf : ∀ i, i < n → 0 ≤ f i ∧ f i ≤ 255) : Sl w (some ⟨b, 0, none⟩) n f :=
  ⟨hf, .inr ⟨b, 0, rfl, h.lt, fun i hi => by rw [Nat.zero_add]; exact h.cell hi⟩⟩
theorem Row.own {w : World} {b base c : Nat} {n : Nat} {f : Nat → Int} (h : Row w b 5 .u8 n f) (hf : ∀ i, i < n → 0 ≤ f i ∧ f i ≤ 255) (hb : base ≤ b) (hn : n ≤ c) (hc : c ≤ maxLen) (hs : ∃ cur, w.heap[b]? = some (.cells cur 5 (0, 0)) ∧ cur.size = c) : OwnB w base b n c f := by
  obtain ⟨cur, hg, hs⟩ := hs
  refine ⟨⟨by rw [cel_len, Nat.mul_one], .inr ⟨b, c, cur, rfl, hb, hg, hn, hc, by omega, ?_⟩⟩, hf⟩
  obtain ⟨m, q, hm, ⟨cur', e1, e2, e3⟩, hq⟩ := h
  rw [hg] at e1
  cases e1
  apply List.ext_getElem?
  intro i
  rw [List.getElem?_take, Nat.mul_one]
  split
  · rename_i hi
    rw [cel_get _ _ _ hi, Array.getElem?_toList, e3 i (by omega), hq i hi]
  · rename_i hi
    rw [List.getElem?_eq_none (by rw [cel_len]; omega)]

/-- five cells -/
def pen (a b c d e : Value) : Nat → Value := fun j => if j = 0 then a else if j = 1 then b else if j = 2 then c else if j = 3 then d else e
theorem pen_set3 (a b c d e v : Value) : ∀ i, i < 5 → (if i = 3 then v else pen a b c d e i) = pen a b c v e i := by
  intro i hi
  rcases (by omega : i = 0 ∨ i = 1 ∨ i = 2 ∨ i = 3 ∨ i = 4) with rfl | rfl | rfl | rfl | rfl <;> simp [pen]
theorem pen_alloc (w : World) (a b c d e : Value) (t : TypeId) : (w.alloc (.cells #[a, b, c, d, e] t)).rowIs w.heap.size t 5 (pen a b c d e) :=
  World.rowIs_alloc w #[a, b, c, d, e] t (pen a b c d e) (fun i hi => by
    have hi : i < 5 := hi
    rcases (by omega : i = 0 ∨ i = 1 ∨ i = 2 ∨ i = 3 ∨ i = 4) with rfl | rfl | rfl | rfl | rfl <;> rfl)

/-- a grid in memory: its box at p, its costs at c, its versions at v -/
structure Gd (w : World) (p c v : Nat) (W H : Int) (N cc : Nat) (f : Nat → Int) (ep : Int) (ver : Nat → Int) : Prop where
  box : w.rowIs p 92 5 (pen (.int .i64 W) (.int .i64 H) (.slice (some ⟨c, 0, none⟩) N cc) (.int .i64 ep) (.slice (some ⟨v, 0, none⟩) (cntS W H) (cntS W H)))
  cost : Row w c 5 .u8 N f
  vers : Row w v 2 .i64 (cntS W H) ver
  byte : ∀ i, i < N → 0 ≤ f i ∧ f i ≤ 255
  may : mayM W H N f = true
  cap : N ≤ cc ∧ cc ≤ maxLen
  apart : p ≠ c ∧ p ≠ v ∧ c ≠ v
theorem Gd.gr {w w' : World} {p c v : Nat} {W H : Int} {N cc : Nat} {f : Nat → Int} {ep : Int} {ver : Nat → Int} (h : Gd w p c v W H N cc f ep ver) (g : Gr w w') : Gd w' p c v W H N cc f ep ver :=
  ⟨row_gr h.box g, h.cost.gr g, h.vers.gr g, h.byte, h.may, h.cap, h.apart⟩
theorem Gd.kp {S : Nat → Prop} {w w' : World} {p c v : Nat} {W H : Int} {N cc : Nat} {f : Nat → Int} {ep : Int} {ver : Nat → Int} (h : Gd w p c v W H N cc f ep ver) (g : Kp S w w') (h1 : ¬ S p) (h2 : ¬ S c) (h3 : ¬ S v) : Gd w' p c v W H N cc f ep ver :=
  ⟨g.row h.box h1, h.cost.kp g h2, h.vers.kp g h3, h.byte, h.may, h.cap, h.apart⟩
theorem Gd.cells {w : World} {p c v : Nat} {W H : Int} {N cc : Nat} {f : Nat → Int} {ep : Int} {ver : Nat → Int} (h : Gd w p c v W H N cc f ep ver) :
    w.cell? ⟨p, 0, none⟩ = some (.int .i64 W) ∧ w.cell? ⟨p, 1, none⟩ = some (.int .i64 H) ∧ w.cell? ⟨p, 2, none⟩ = some (.slice (some ⟨c, 0, none⟩) N cc) ∧ w.cell? ⟨p, 3, none⟩ = some (.int .i64 ep) ∧ w.cell? ⟨p, 4, none⟩ = some (.slice (some ⟨v, 0, none⟩) (cntS W H) (cntS W H)) :=
  ⟨h.box.cell (i := 0) (by omega), h.box.cell (i := 1) (by omega), h.box.cell (i := 2) (by omega), h.box.cell (i := 3) (by omega), h.box.cell (i := 4) (by omega)⟩
/-- how large all of it is -/
theorem Gd.bd {w : World} {p c v : Nat} {W H : Int} {N cc : Nat} {f : Nat → Int} {ep : Int} {ver : Nat → Int} (h : Gd w p c v W H N cc f ep ver) :
    mayB W H = true ∧ (N : Int) = W * H ∧ 1 ≤ N ∧ N ≤ 1048576 ∧ 1 ≤ cntS W H ∧ cntS W H ≤ 4096 ∧ (cntS W H : Int) = countF W H := by
  obtain ⟨hm, hn, -⟩ := (mayM_iff _ _ _ _).1 h.may
  have := may_mul hm
  have q := cntS_eq hm
  exact ⟨hm, hn, by omega, by omega, q.2.1, q.2.2, cntS_int W H⟩

set_option maxHeartbeats 1000000 in
theorem gisCell_any {w : World} {p c v : Nat} {W H : Int} {N cc : Nat} {f : Nat → Int} {ep : Int} {ver : Nat → Int} (h : Gd w p c v W H N cc f ep ver) (x : Int) :
    Calls Tryz.prog 50 #[.pointer (some ⟨p, 0, none⟩), .int .i64 x] w fun e w' => e = .returned (.bool (decide (0 ≤ x ∧ x < N))) ∧ Gr w w' := by
  obtain ⟨c0, c1, c2, c3, c4⟩ := h.cells
  clear h
  by_cases h0 : 0 ≤ x
  · go_enter Tryz.func50, Tryz.ntmps50
    go_wp2
    go_ret
    exact ⟨ret_bool (by simp [h0]), (by repeat (first | exact Gr.refl _ | assumption | exact Dr.gr (by assumption) | refine Gr.alloc ?_ _ | refine Gr.drewN ?_ _ | refine Gr.drew ?_ | refine Gr.trans ?_ (by assumption) | refine Gr.trans ?_ (Dr.gr (by assumption))))⟩
  · go_enter Tryz.func50, Tryz.ntmps50
    go_wp2
    go_ret
    exact ⟨ret_bool (by simp; omega), (by repeat (first | exact Gr.refl _ | assumption | exact Dr.gr (by assumption) | refine Gr.alloc ?_ _ | refine Gr.drewN ?_ _ | refine Gr.drew ?_ | refine Gr.trans ?_ (by assumption) | refine Gr.trans ?_ (Dr.gr (by assumption))))⟩

set_option maxHeartbeats 1000000 in
theorem gisSector_any {w : World} {p c v : Nat} {W H : Int} {N cc : Nat} {f : Nat → Int} {ep : Int} {ver : Nat → Int} (h : Gd w p c v W H N cc f ep ver) (x : Int) :
    Calls Tryz.prog 68 #[.pointer (some ⟨p, 0, none⟩), .int .i64 x] w fun e w' => e = .returned (.bool (decide (0 ≤ x ∧ x < cntS W H))) ∧ Gr w w' := by
  obtain ⟨c0, c1, c2, c3, c4⟩ := h.cells
  clear h
  by_cases h0 : 0 ≤ x
  · go_enter Tryz.func68, Tryz.ntmps68
    go_wp2
    go_ret
    exact ⟨ret_bool (by simp [h0]), (by repeat (first | exact Gr.refl _ | assumption | exact Dr.gr (by assumption) | refine Gr.alloc ?_ _ | refine Gr.drewN ?_ _ | refine Gr.drew ?_ | refine Gr.trans ?_ (by assumption) | refine Gr.trans ?_ (Dr.gr (by assumption))))⟩
  · go_enter Tryz.func68, Tryz.ntmps68
    go_wp2
    go_ret
    exact ⟨ret_bool (by simp; omega), (by repeat (first | exact Gr.refl _ | assumption | exact Dr.gr (by assumption) | refine Gr.alloc ?_ _ | refine Gr.drewN ?_ _ | refine Gr.drew ?_ | refine Gr.trans ?_ (by assumption) | refine Gr.trans ?_ (Dr.gr (by assumption))))⟩

set_option maxHeartbeats 1000000 in
theorem gsize_any {w : World} {p c v : Nat} {W H : Int} {N cc : Nat} {f : Nat → Int} {ep : Int} {ver : Nat → Int} (h : Gd w p c v W H N cc f ep ver) :
    Calls Tryz.prog 36 #[.pointer (some ⟨p, 0, none⟩)] w fun e w' => e = .returned (.tuple #[.int .i64 W, .int .i64 H]) ∧ Gr w w' := by
  obtain ⟨c0, c1, c2, c3, c4⟩ := h.cells
  clear h
  go_enter Tryz.func36, Tryz.ntmps36
  go_wp2
  go_quiet (fail)
  go_wp2
  go_ret2
  exact ⟨rfl, (by repeat (first | exact Gr.refl _ | assumption | exact Dr.gr (by assumption) | refine Gr.alloc ?_ _ | refine Gr.drewN ?_ _ | refine Gr.drew ?_ | refine Gr.trans ?_ (by assumption) | refine Gr.trans ?_ (Dr.gr (by assumption))))⟩

/-- a cell's cost, a sector's version; 0 of none -/
def gatF (n : Nat) (f : Nat → Int) (x : Int) : Int := if 0 ≤ x ∧ x < n then f x.toNat else 0

set_option maxHeartbeats 1000000 in
theorem gcost_any {w : World} {p c v : Nat} {W H : Int} {N cc : Nat} {f : Nat → Int} {ep : Int} {ver : Nat → Int} (h : Gd w p c v W H N cc f ep ver) (x : Int) :
    Calls Tryz.prog 38 #[.pointer (some ⟨p, 0, none⟩), .int .i64 x] w fun e w' => e = .returned (.int .i64 (gatF N f x)) ∧ Gr w w' := by
  have hb := h.bd
  have HG := hide h
  by_cases h0 : 0 ≤ x ∧ x < N
  · obtain ⟨k, rfl⟩ : ∃ k : Nat, x = k := ⟨x.toNat, by omega⟩
    have hk : k < N := by omega
    have E : Hid (f k = gatF N f k) := hide (by unfold gatF; rw [if_pos h0]; rfl)
    have hby := h.byte k hk
    have hcap := h.cap
    clear h
    have hd : decide (0 ≤ (k : Int) ∧ (k : Int) < N) = true := by simp; omega
    go_enter Tryz.func38, Tryz.ntmps38
    go_wp2_with (go_at_call 50; refine (gisCell_any HG.out _).mono ?_; rintro e w1 ⟨rfl, hg1⟩; rw [hd]; obtain ⟨c0, c1, c2, c3, c4⟩ := (HG.out.gr hg1).cells; have c5 := (HG.out.gr hg1).cost.cell hk)
    go_ret
    exact ⟨ret_int (by rw [← E.out]; try omega), (by repeat (first | exact Gr.refl _ | assumption | exact Dr.gr (by assumption) | refine Gr.alloc ?_ _ | refine Gr.drewN ?_ _ | refine Gr.drew ?_ | refine Gr.trans ?_ (by assumption) | refine Gr.trans ?_ (Dr.gr (by assumption))))⟩
  · have E : Hid (0 = gatF N f x) := hide (by unfold gatF; rw [if_neg h0])
    clear h
    have hd : decide (0 ≤ x ∧ x < N) = false := by simp; omega
    clear h0
    go_enter Tryz.func38, Tryz.ntmps38
    go_wp2_with (go_at_call 50; refine (gisCell_any HG.out _).mono ?_; rintro e w1 ⟨rfl, hg1⟩; rw [hd])
    go_ret
    exact ⟨ret_int E.out, (by repeat (first | exact Gr.refl _ | assumption | exact Dr.gr (by assumption) | refine Gr.alloc ?_ _ | refine Gr.drewN ?_ _ | refine Gr.drew ?_ | refine Gr.trans ?_ (by assumption) | refine Gr.trans ?_ (Dr.gr (by assumption))))⟩

set_option maxHeartbeats 1000000 in
theorem gversion_any {w : World} {p c v : Nat} {W H : Int} {N cc : Nat} {f : Nat → Int} {ep : Int} {ver : Nat → Int} (h : Gd w p c v W H N cc f ep ver) (x : Int) :
    Calls Tryz.prog 41 #[.pointer (some ⟨p, 0, none⟩), .int .i64 x] w fun e w' => e = .returned (.int .i64 (gatF (cntS W H) ver x)) ∧ Gr w w' := by
  have hb := h.bd
  have HG := hide h
  by_cases h0 : 0 ≤ x ∧ x < cntS W H
  · obtain ⟨k, rfl⟩ : ∃ k : Nat, x = k := ⟨x.toNat, by omega⟩
    have hk : k < cntS W H := by omega
    have E : Hid (ver k = gatF (cntS W H) ver k) := hide (by unfold gatF; rw [if_pos h0]; rfl)
    clear h
    have hd : decide (0 ≤ (k : Int) ∧ (k : Int) < cntS W H) = true := by simp; omega
    go_enter Tryz.func41, Tryz.ntmps41
    go_wp2_with (go_at_call 68; refine (gisSector_any HG.out _).mono ?_; rintro e w1 ⟨rfl, hg1⟩; rw [hd]; obtain ⟨c0, c1, c2, c3, c4⟩ := (HG.out.gr hg1).cells; have c5 := (HG.out.gr hg1).vers.cell hk)
    go_ret
    exact ⟨ret_int E.out, (by repeat (first | exact Gr.refl _ | assumption | exact Dr.gr (by assumption) | refine Gr.alloc ?_ _ | refine Gr.drewN ?_ _ | refine Gr.drew ?_ | refine Gr.trans ?_ (by assumption) | refine Gr.trans ?_ (Dr.gr (by assumption))))⟩
  · have E : Hid (0 = gatF (cntS W H) ver x) := hide (by unfold gatF; rw [if_neg h0])
    clear h
    have hd : decide (0 ≤ x ∧ x < cntS W H) = false := by simp; omega
    clear h0
    go_enter Tryz.func41, Tryz.ntmps41
    go_wp2_with (go_at_call 68; refine (gisSector_any HG.out _).mono ?_; rintro e w1 ⟨rfl, hg1⟩; rw [hd])
    go_ret
    exact ⟨ret_int E.out, (by repeat (first | exact Gr.refl _ | assumption | exact Dr.gr (by assumption) | refine Gr.alloc ?_ _ | refine Gr.drewN ?_ _ | refine Gr.drew ?_ | refine Gr.trans ?_ (by assumption) | refine Gr.trans ?_ (Dr.gr (by assumption))))⟩

/-- the blocks of a grid -/
def Of3 (p c v : Nat) (k : Nat) : Prop := k = p ∨ k = c ∨ k = v
/-- the code of an edit -/
def ecF (N : Nat) (x y : Int) : Int := if 0 ≤ x ∧ x < N then (if 1 ≤ y ∧ y ≤ 255 then 0 else 8) else 7

set_option maxHeartbeats 1000000 in
theorem gedit_no {w : World} {p c v : Nat} {W H : Int} {N cc : Nat} {f : Nat → Int} {ep : Int} {ver : Nat → Int} (h : Gd w p c v W H N cc f ep ver) (x y : Int) (hc : ecF N x y ≠ 0) :
    Calls Tryz.prog 23 #[.pointer (some ⟨p, 0, none⟩), .int .i64 x, .int .i64 y] w fun e w' => e = .returned (.int .i64 (ecF N x y)) ∧ Gr w w' := by
  have HG := hide h
  clear h
  by_cases h0 : 0 ≤ x ∧ x < N
  · have hd : decide (0 ≤ x ∧ x < N) = true := by simp; omega
    by_cases h1 : 1 ≤ y
    · have h2 : 255 < y := by
        apply Classical.byContradiction
        intro h2
        exact hc (by unfold ecF; rw [if_pos h0, if_pos (by omega)])
      have E : Hid (8 = ecF N x y) := hide (by unfold ecF; rw [if_pos h0, if_neg (by omega)])
      clear hc
      go_enter Tryz.func23, Tryz.ntmps23
      go_wp2_with (go_at_call 50; refine (gisCell_any HG.out _).mono ?_; rintro e w1 ⟨rfl, hg1⟩; rw [hd])
      go_ret
      exact ⟨ret_int E.out, (by repeat (first | exact Gr.refl _ | assumption | exact Dr.gr (by assumption) | refine Gr.alloc ?_ _ | refine Gr.drewN ?_ _ | refine Gr.drew ?_ | refine Gr.trans ?_ (by assumption) | refine Gr.trans ?_ (Dr.gr (by assumption))))⟩
    · have E : Hid (8 = ecF N x y) := hide (by unfold ecF; rw [if_pos h0, if_neg (by omega)])
      clear hc
      go_enter Tryz.func23, Tryz.ntmps23
      go_wp2_with (go_at_call 50; refine (gisCell_any HG.out _).mono ?_; rintro e w1 ⟨rfl, hg1⟩; rw [hd])
      go_ret
      exact ⟨ret_int E.out, (by repeat (first | exact Gr.refl _ | assumption | exact Dr.gr (by assumption) | refine Gr.alloc ?_ _ | refine Gr.drewN ?_ _ | refine Gr.drew ?_ | refine Gr.trans ?_ (by assumption) | refine Gr.trans ?_ (Dr.gr (by assumption))))⟩
  · have hd : decide (0 ≤ x ∧ x < N) = false := by simp; omega
    have E : Hid (7 = ecF N x y) := hide (by unfold ecF; rw [if_neg h0])
    clear hc h0
    go_enter Tryz.func23, Tryz.ntmps23
    go_wp2_with (go_at_call 50; refine (gisCell_any HG.out _).mono ?_; rintro e w1 ⟨rfl, hg1⟩; rw [hd])
    go_ret
    exact ⟨ret_int E.out, (by repeat (first | exact Gr.refl _ | assumption | exact Dr.gr (by assumption) | refine Gr.alloc ?_ _ | refine Gr.drewN ?_ _ | refine Gr.drew ?_ | refine Gr.trans ?_ (by assumption) | refine Gr.trans ?_ (Dr.gr (by assumption))))⟩

/-- what is laid at one place, all else as it was -/
def putF (f : Nat → Int) (k : Nat) (x : Int) : Nat → Int := fun j => if j = k then x else f j

theorem Gd.edit {w w2 : World} {p c v : Nat} {W H : Int} {N cc : Nat} {f : Nat → Int} {ep : Int} {ver : Nat → Int} (h : Gd w p c v W H N cc f ep ver) {k s : Nat} {y ep' : Int} (hy : 1 ≤ y ∧ y ≤ 255) (he : ep' = ep + 1)
    (hg : Gr ((w.setCell ⟨c, k, none⟩ (.int .u8 y)).setCell ⟨p, 3, none⟩ (.int .i64 ep')) w2) :
    Gd (w2.setCell ⟨v, s, none⟩ (.int .i64 ep')) p c v W H N cc (putF f k y) (ep + 1) (putF ver s (ep + 1)) ∧ Kp (Of3 p c v) w (w2.setCell ⟨v, s, none⟩ (.int .i64 ep')) := by
  subst he
  obtain ⟨a1, a2, a3⟩ := h.apart
  obtain ⟨hm, hn, hf⟩ := (mayM_iff _ _ _ _).1 h.may
  refine ⟨⟨?_, ?_, ?_, ?_, ?_, h.cap, h.apart⟩, ?_⟩
  · exact (row_gr (World.rowIs.congr ((h.box.setOther (a := ⟨c, k, none⟩) a1 _).set 3 _) (pen_set3 _ _ _ _ _ _)) hg).setOther (a := ⟨v, s, none⟩) a2 _
  · exact (((h.cost.set k y).setOther (a := ⟨p, 3, none⟩) (Ne.symm a1) _).gr hg).setOther (a := ⟨v, s, none⟩) a3 _
  · exact (((h.vers.setOther (a := ⟨c, k, none⟩) (Ne.symm a3) _).setOther (a := ⟨p, 3, none⟩) (Ne.symm a2) _).gr hg).set s (ep + 1)
  · intro i hi
    unfold putF
    split
    · omega
    · exact h.byte i hi
  · rw [mayM_iff]
    refine ⟨hm, hn, fun i hi => ?_⟩
    unfold putF
    split
    · omega
    · exact hf i hi
  · exact Kp.set (Kp.trans (Kp.set (Kp.set (Kp.refl _ w) (p := ⟨c, k, none⟩) (.inl (.inr (.inl rfl))) _) (p := ⟨p, 3, none⟩) (.inl (.inl rfl)) _) hg.kp) (p := ⟨v, s, none⟩) (.inl (.inr (.inr rfl))) _

theorem cell4_far {w : World} {p q s i0 i1 i2 i3 : Nat} {x0 x1 x2 x3 x : Value} (h : w.cell? ⟨p, i0, none⟩ = some x0 ∧ w.cell? ⟨p, i1, none⟩ = some x1 ∧ w.cell? ⟨p, i2, none⟩ = some x2 ∧ w.cell? ⟨p, i3, none⟩ = some x3) (hq : p ≠ q) :
    (w.setCell ⟨q, s, none⟩ x).cell? ⟨p, i0, none⟩ = some x0 ∧ (w.setCell ⟨q, s, none⟩ x).cell? ⟨p, i1, none⟩ = some x1 ∧ (w.setCell ⟨q, s, none⟩ x).cell? ⟨p, i2, none⟩ = some x2 ∧ (w.setCell ⟨q, s, none⟩ x).cell? ⟨p, i3, none⟩ = some x3 := by
  rw [World.cell?_setCell_far _ _ _ _ (by exact fun e => hq e.symm), World.cell?_setCell_far _ _ _ _ (by exact fun e => hq e.symm), World.cell?_setCell_far _ _ _ _ (by exact fun e => hq e.symm), World.cell?_setCell_far _ _ _ _ (by exact fun e => hq e.symm)]
  exact h

set_option maxHeartbeats 4000000 in
theorem gedit_yes {w : World} {p c v : Nat} {W H : Int} {N cc : Nat} {f : Nat → Int} {ep : Int} {ver : Nat → Int} (h : Gd w p c v W H N cc f ep ver) (k : Nat) (y : Int) (hk : k < N) (hy : 1 ≤ y ∧ y ≤ 255) (he : -4611686018427387904 ≤ ep ∧ ep ≤ 9223372036854775806) :
    Calls Tryz.prog 23 #[.pointer (some ⟨p, 0, none⟩), .int .i64 k, .int .i64 y] w fun e w' => e = .returned (.int .i64 0) ∧ Gd w' p c v W H N cc (putF f k y) (ep + 1) (putF ver (sectorF W k).toNat (ep + 1)) ∧ Kp (Of3 p c v) w w' := by
  obtain ⟨hm, hn, b1, b2, b3, b4, b5⟩ := h.bd
  obtain ⟨s, l, hs, hl, es, el, egc⟩ := cell_at hm hn hk
  have hcell : isCellB W H k = true := by rw [isCellB_iff]; exact ⟨hm, by omega, by omega⟩
  have hd : decide (0 ≤ (k : Int) ∧ (k : Int) < N) = true := by simp; omega
  obtain ⟨a1, a2, a3⟩ := h.apart
  have HG := hide h
  have hcap := h.cap
  have HS := hide (fun u => sector_yes W H k u hcell)
  rw [es] at HS ⊢
  have hsI : (s : Int) < (cntS W H : Int) := by omega
  clear h es el egc hcell hn b5
  go_enter Tryz.func23, Tryz.ntmps23
  go_wp2_with (go_at_call 50; refine (gisCell_any HG.out _).mono ?_; rintro e w1 ⟨rfl, hg1⟩; rw [hd]; have HG1 := hide (HG.out.gr hg1); obtain ⟨c0, c1, c2, c3, c4⟩ := HG1.out.cells; have c5 := HG1.out.cost.cell hk; have f5 := HG1.out.cost.frozen k; have f3 := HG1.out.box.frozen 3)
  have hbx := row_gr (World.rowIs.congr ((HG1.out.box.setOther (a := ⟨c, k, none⟩) a1 (.int .u8 y)).set 3 (.int .i64 (ep + 1))) (pen_set3 _ _ _ _ _ _)) (Gr.refl _)
  have hvr := (HG1.out.vers.setOther (a := ⟨c, k, none⟩) (Ne.symm a3) (.int .u8 y)).setOther (a := ⟨p, 3, none⟩) (Ne.symm a2) (.int .i64 (ep + 1))
  have HE := hide (fun w2 => HG1.out.edit (w2 := w2) (k := k) (s := s) hy rfl)
  clear c0 c1 c2 c3 c4 c5 f5 f3
  generalize ((w1.setCell ⟨c, k, none⟩ (.int .u8 y)).setCell ⟨p, 3, none⟩ (.int .i64 (ep + 1))) = u at *
  have d0 := hbx.cell (i := 0) (by omega)
  have d1 := hbx.cell (i := 1) (by omega)
  have d3 := hbx.cell (i := 3) (by omega)
  have d4 := hbx.cell (i := 4) (by omega)
  simp only [pen] at d0 d1 d3 d4
  have HV := hide hvr
  clear hbx hvr
  go_region_held3 (fun z => z.cell? ⟨p, 0, none⟩ = some (.int .i64 W) ∧ z.cell? ⟨p, 1, none⟩ = some (.int .i64 H) ∧ z.cell? ⟨p, 3, none⟩ = some (.int .i64 (ep + 1)) ∧ z.cell? ⟨p, 4, none⟩ = some (.slice (some ⟨v, 0, none⟩) (cntS W H) (cntS W H))) (first | exact ⟨d0, d1, d3, d4⟩ | exact ⟨e0, e1, e3, e4⟩ | exact cell4_far ⟨e0, e1, e3, e4⟩ a2) ((go_at_call 24; refine (HS.out _).mono ?_; rintro e w9 ⟨rfl, hd9⟩; have hg9 := (Gr.refl u).drew.trans (Dr.gr hd9); clear hd9; have e0 := cell_gr d0 hg9; have e1 := cell_gr d1 hg9; have e3 := cell_gr d3 hg9; have e4 := cell_gr d4 hg9; have e5 := (HV.out.gr hg9).cell hs; have f5 := (HV.out.gr hg9).frozen s))
  obtain ⟨q1, q2⟩ := HE.out _ hg9
  go_wp2
  go_ret
  exact ⟨rfl, q1, (hg1.kp).trans q2⟩

theorem info_i64 : (Tryz.prog.info? 2).map (fun i => (i.zero, i.size, i.bytes)) = some (some (.int .i64 0), 1, 8) := by kernel_rfl
theorem make_vers (C : Nat) (hc : C ≤ 4096) (w : World) : (Instr.makeSlice 90 (.int .i64 (C : Int)) (.int .i64 (C : Int))).run Tryz.prog w = .ok (.slice (some ⟨w.heap.size, 0, none⟩) C C) (w.alloc (.cells (madeCells #[.int .i64 0] C) 2)) := by
  obtain ⟨i0, hi, hz0, hz1, hz2⟩ := info_parts info_i64
  have hr := run_make (P := Tryz.prog) w 90 2 i0 (.int .i64 0) Tryz.underlying90 hi hz0 .i64 .i64 C C (by omega) (by omega) (by rw [hz2]; omega) (by omega)
  simp only [Int.toNat_natCast, hz1, Nat.mul_one] at hr
  exact hr

set_option maxHeartbeats 2000000 in
theorem copied_any (W H : Int) (a : Option Addr) (n cap : Nat) (f : Nat → Int) (w : World) (h : Sl w a n f) (hn : 0 < n) (hbig : n ≤ 1048576) :
    Calls Tryz.prog 56 #[.agg #[.int .i64 W, .int .i64 H, .slice a n cap]] w fun e w' => (∃ g c', e = .returned (.agg #[.int .i64 W, .int .i64 H, .slice (some ⟨g, 0, none⟩) n c']) ∧ OwnB w' w.heap.size g n c' f) ∧ Gr w w' := by
  obtain ⟨R1, R2, hU, hUw⟩ := two_boxes w W H (.slice a n cap) 24 24
  have HB := hide h.byte
  go_enter Tryz.func56, Tryz.ntmps56
  go_wp2_with fail
  generalize ((w.alloc (.cells #[.int .i64 W, .int .i64 H, .slice a n cap] 24)).alloc (.cells #[.int .i64 0, .int .i64 0, .slice none 0 0] 24)) = U at *
  obtain ⟨d1, d2, d3, -, -, -⟩ := row_cells R1
  have HR := hide R2
  clear R1 R2
  go_region_held3 (fun z => z.cell? ⟨w.heap.size, 0, none⟩ = some (.int .i64 W) ∧ z.cell? ⟨w.heap.size, 1, none⟩ = some (.int .i64 H) ∧ z.cell? ⟨w.heap.size, 2, none⟩ = some (.slice a n cap)) (first | exact ⟨d1, d2, d3⟩ | exact ⟨e1, e2, e3⟩ | exact ⟨cell_far3 e1 (by omega), cell_far3 e2 (by omega), cell_far3 e3 (by omega)⟩) ((go_at_call 75; refine (clone_any _ _ _ f _ (h.gr hUw.drew) hn (by omega)).mono ?_; rintro e w9 ⟨⟨g, c', rfl, ho9, hb9⟩, hd9⟩; have hg9 := (Gr.refl U).drew.trans hd9; clear hd9; have e1 := cell_gr d1 hg9; have e2 := cell_gr d2 hg9; have e3 := cell_gr d3 hg9; obtain ⟨x1, x2, x3, j1, j2, j3⟩ := row_cells (row_gr HR.out hg9)))
  go_wp2
  have hs : U.drew.heap.size = w.heap.size + 2 := hU
  exact bodyPost_ret (v := .agg #[.int .i64 W, .int .i64 H, .slice (some ⟨g, 0, none⟩) n c']) (by simp [results, Tryz.results56, go_sem, x1, x2, x3]) rfl ⟨⟨g, c', rfl, own_mono (own_set3 ho9 (by omega)) (by omega), HB.out⟩, gr_set3 (hUw.trans hg9) (by omega)⟩

set_option maxHeartbeats 1000000 in
theorem gnew_no (W H : Int) (a : Option Addr) (n cap : Nat) (f : Nat → Int) (ep : Int) (w : World) (h : Sl w a n f) (hm : mayM W H n f = false ∨ ep < 0 ∨ 4611686018427387904 < ep) :
    Calls Tryz.prog 30 #[.agg #[.int .i64 W, .int .i64 H, .slice a n cap], .int .i64 ep] w fun e w' => e = .returned (.pointer none) ∧ Gr w w' := by
  cases hmm : mayM W H n f
  · go_enter Tryz.func30, Tryz.ntmps30
    go_wp2_with (go_at_call 59; refine (amay_any _ _ _ _ _ f _ (h.gr (by repeat (first | exact Gr.refl _ | assumption | exact Dr.gr (by assumption) | refine Gr.alloc ?_ _ | refine Gr.drewN ?_ _ | refine Gr.drew ?_ | refine Gr.trans ?_ (by assumption) | refine Gr.trans ?_ (Dr.gr (by assumption)))))).mono ?_; rintro e w1 ⟨rfl, hg1⟩; rw [hmm])
    go_ret
    exact ⟨rfl, (by repeat (first | exact Gr.refl _ | assumption | exact Dr.gr (by assumption) | refine Gr.alloc ?_ _ | refine Gr.drewN ?_ _ | refine Gr.drew ?_ | refine Gr.trans ?_ (by assumption) | refine Gr.trans ?_ (Dr.gr (by assumption))))⟩
  by_cases he : ep < 0
  · clear hm
    go_enter Tryz.func30, Tryz.ntmps30
    go_wp2_with (go_at_call 59; refine (amay_any _ _ _ _ _ f _ (h.gr (by repeat (first | exact Gr.refl _ | assumption | exact Dr.gr (by assumption) | refine Gr.alloc ?_ _ | refine Gr.drewN ?_ _ | refine Gr.drew ?_ | refine Gr.trans ?_ (by assumption) | refine Gr.trans ?_ (Dr.gr (by assumption)))))).mono ?_; rintro e w1 ⟨rfl, hg1⟩; rw [hmm])
    go_ret
    exact ⟨rfl, (by repeat (first | exact Gr.refl _ | assumption | exact Dr.gr (by assumption) | refine Gr.alloc ?_ _ | refine Gr.drewN ?_ _ | refine Gr.drew ?_ | refine Gr.trans ?_ (by assumption) | refine Gr.trans ?_ (Dr.gr (by assumption))))⟩
  · have he2 : 4611686018427387904 < ep := by
      rcases hm with hm | hm | hm
      · rw [hm] at hmm; cases hmm
      · omega
      · exact hm
    clear hm
    go_enter Tryz.func30, Tryz.ntmps30
    go_wp2_with (go_at_call 59; refine (amay_any _ _ _ _ _ f _ (h.gr (by repeat (first | exact Gr.refl _ | assumption | exact Dr.gr (by assumption) | refine Gr.alloc ?_ _ | refine Gr.drewN ?_ _ | refine Gr.drew ?_ | refine Gr.trans ?_ (by assumption) | refine Gr.trans ?_ (Dr.gr (by assumption)))))).mono ?_; rintro e w1 ⟨rfl, hg1⟩; rw [hmm])
    go_ret
    exact ⟨rfl, (by repeat (first | exact Gr.refl _ | assumption | exact Dr.gr (by assumption) | refine Gr.alloc ?_ _ | refine Gr.drewN ?_ _ | refine Gr.drew ?_ | refine Gr.trans ?_ (by assumption) | refine Gr.trans ?_ (Dr.gr (by assumption))))⟩

theorem keepG {u z : World} {b : Nat} {x y v : Value} (h : u.cell? ⟨b, 0, none⟩ = some x ∧ u.cell? ⟨b, 1, none⟩ = some y ∧ u.cell? ⟨b, 2, none⟩ = some v) (g : Gr u z) : z.cell? ⟨b, 0, none⟩ = some x ∧ z.cell? ⟨b, 1, none⟩ = some y ∧ z.cell? ⟨b, 2, none⟩ = some v ∧ Gr u z :=
  ⟨cell_gr h.1 g, cell_gr h.2.1 g, cell_gr h.2.2 g, g⟩
theorem cell2_far {w : World} {p q s i0 i1 : Nat} {x0 x1 x : Value} (h : w.cell? ⟨p, i0, none⟩ = some x0 ∧ w.cell? ⟨p, i1, none⟩ = some x1) (hq : p ≠ q) :
    (w.setCell ⟨q, s, none⟩ x).cell? ⟨p, i0, none⟩ = some x0 ∧ (w.setCell ⟨q, s, none⟩ x).cell? ⟨p, i1, none⟩ = some x1 := by
  rw [World.cell?_setCell_far _ _ _ _ (by exact fun e => hq e.symm), World.cell?_setCell_far _ _ _ _ (by exact fun e => hq e.symm)]
  exact h
theorem Row.made (w : World) (C : Nat) : Row (w.alloc (.cells (madeCells #[.int .i64 0] C) 2)) w.heap.size 2 .i64 C (fun _ => 0) := Row.of_is (World.rowIs_made w (.int .i64 0) C 2)
theorem Gd.born {z : World} {W H : Int} {n c v cc base : Nat} {f : Nat → Int} {ep : Int} (hc : OwnB z base c n cc f) (hv : Row z v 2 .i64 (cntS W H) (fun _ => 0)) (hcv : c ≠ v) (hm : mayM W H n f = true) :
    Gd (z.alloc (.cells #[.int .i64 W, .int .i64 H, .slice (some ⟨c, 0, none⟩) n cc, .int .i64 ep, .slice (some ⟨v, 0, none⟩) (cntS W H) (cntS W H)] 92)) z.heap.size c v W H n cc f ep (fun _ => 0) := by
  have g := (Gr.refl z).alloc (.cells #[.int .i64 W, .int .i64 H, .slice (some ⟨c, 0, none⟩) n cc, .int .i64 ep, .slice (some ⟨v, 0, none⟩) (cntS W H) (cntS W H)] 92)
  obtain ⟨q1, q2, q3, q4, -⟩ := hc.sl
  have := hv.lt
  exact ⟨pen_alloc z _ _ _ _ _ _, (Row.of_own hc.own).gr g, hv.gr g, hc.byte, hm, ⟨q1, q2⟩, by omega, by omega, hcv⟩
theorem Gd.setVer {w : World} {p c v : Nat} {W H : Int} {N cc : Nat} {f : Nat → Int} {ep : Int} {ver : Nat → Int} (h : Gd w p c v W H N cc f ep ver) (s : Nat) (x : Int) : Gd (w.setCell ⟨v, s, none⟩ (.int .i64 x)) p c v W H N cc f ep (putF ver s x) :=
  ⟨h.box.setOther (a := ⟨v, s, none⟩) h.apart.2.1 _, h.cost.setOther (a := ⟨v, s, none⟩) h.apart.2.2 _, h.vers.set s x, h.byte, h.may, h.cap, h.apart⟩
theorem Gd.congrV {w : World} {p c v : Nat} {W H : Int} {N cc : Nat} {f : Nat → Int} {ep : Int} {ver ver' : Nat → Int} (h : Gd w p c v W H N cc f ep ver) (e : ∀ i, i < cntS W H → ver i = ver' i) : Gd w p c v W H N cc f ep ver' :=
  ⟨h.box, h.cost, h.vers.congr e, h.byte, h.may, h.cap, h.apart⟩

theorem new_A {w w2 w9 : World} {W H : Int} {n g cc base : Nat} {f : Nat → Int} {ep : Int} (ho : OwnB w9 base g n cc f) (hw : Gr w w9) (h2 : Gr w w2) (hm : mayM W H n f = true) (hb : base = w2.heap.size := by rfl) :
    ∃ p c v cc', Value.pointer (some ⟨w9.heap.size + 1, 0, none⟩) = Value.pointer (some ⟨p, 0, none⟩) ∧ Gd ((w9.alloc (.cells (madeCells #[.int .i64 0] (cntS W H)) 2)).alloc (.cells #[.int .i64 W, .int .i64 H, .slice (some ⟨g, 0, none⟩) n cc, .int .i64 ep, .slice (some ⟨w9.heap.size, 0, none⟩) (cntS W H) (cntS W H)] 92)) p c v W H n cc' f ep (fun _ => 0) ∧ w.heap.size ≤ p ∧ w.heap.size ≤ c ∧ w.heap.size ≤ v ∧
      Gr w ((w9.alloc (.cells (madeCells #[.int .i64 0] (cntS W H)) 2)).alloc (.cells #[.int .i64 W, .int .i64 H, .slice (some ⟨g, 0, none⟩) n cc, .int .i64 ep, .slice (some ⟨w9.heap.size, 0, none⟩) (cntS W H) (cntS W H)] 92)) := by
  obtain ⟨q1, q2, q3, q4, -⟩ := ho.sl
  have s1 := hw.size
  have s2 := h2.size
  have := Gd.born (W := W) (H := H) (v := w9.heap.size) (ep := ep) (ho.gr ((Gr.refl w9).alloc _)) (Row.made w9 (cntS W H)) (by omega) hm
  rw [World.size_alloc] at this
  exact ⟨_, g, w9.heap.size, cc, rfl, this, by omega, by omega, by omega, (hw.alloc _).alloc _⟩
theorem new_B {w w2 w9 : World} {W H : Int} {n g cc base : Nat} {f : Nat → Int} {ep : Int} (ho : OwnB w9 base g n cc f) (hg : Gr (w2.drew.alloc (.cells (madeCells #[.int .i64 0] (cntS W H)) 2)) w9) (h2 : Gr w w2) (hm : mayM W H n f = true) (hb : base = (w2.drew.alloc (.cells (madeCells #[.int .i64 0] (cntS W H)) 2)).heap.size := by rfl) :
    ∃ p c v cc', Value.pointer (some ⟨w9.heap.size, 0, none⟩) = Value.pointer (some ⟨p, 0, none⟩) ∧ Gd (w9.alloc (.cells #[.int .i64 W, .int .i64 H, .slice (some ⟨g, 0, none⟩) n cc, .int .i64 ep, .slice (some ⟨w2.heap.size, 0, none⟩) (cntS W H) (cntS W H)] 92)) p c v W H n cc' f ep (fun _ => 0) ∧ w.heap.size ≤ p ∧ w.heap.size ≤ c ∧ w.heap.size ≤ v ∧
      Gr w (w9.alloc (.cells #[.int .i64 W, .int .i64 H, .slice (some ⟨g, 0, none⟩) n cc, .int .i64 ep, .slice (some ⟨w2.heap.size, 0, none⟩) (cntS W H) (cntS W H)] 92)) := by
  obtain ⟨q1, q2, q3, q4, -⟩ := ho.sl
  have s1 := hg.size
  have s2 := h2.size
  have s3 : (w2.drew.alloc (.cells (madeCells #[.int .i64 0] (cntS W H)) 2)).heap.size = w2.heap.size + 1 := World.size_alloc _ _
  have hr := (Row.made w2.drew (cntS W H)).gr hg
  exact ⟨_, g, w2.heap.size, cc, rfl, Gd.born ho hr (by show g ≠ w2.heap.size; omega) hm, by omega, by omega, by omega, ((h2.drew.alloc _).trans hg).alloc _⟩

set_option maxHeartbeats 4000000 in
theorem gnew_yes (W H : Int) (a : Option Addr) (n cap : Nat) (f : Nat → Int) (ep : Int) (w : World) (h : Sl w a n f) (hm : mayM W H n f = true) (he : 0 ≤ ep ∧ ep ≤ 4611686018427387904) :
    Calls Tryz.prog 30 #[.agg #[.int .i64 W, .int .i64 H, .slice a n cap], .int .i64 ep] w fun e w' => (∃ p c v cc, e = .returned (.pointer (some ⟨p, 0, none⟩)) ∧ Gd w' p c v W H n cc f (ep + 1) (fun _ => ep + 1) ∧ w.heap.size ≤ p ∧ w.heap.size ≤ c ∧ w.heap.size ≤ v) ∧ Gr w w' := by
  obtain ⟨hmb, hN, hf0⟩ := (mayM_iff _ _ _ _).1 hm
  have mm := may_mul hmb
  have hn1 : 0 < n := by omega
  have hn6 : n ≤ 1048576 := by omega
  obtain ⟨hC1, hC2, hC3⟩ := cntS_eq hmb
  have hmk := fun u : World => make_vers (cntS W H) hC3 u
  have HSE := hide (fun u => sectors_yes W H u hmb)
  have HM := hide hm
  rw [hC1] at hmk
  generalize acrossF W = A at *
  generalize acrossF H = D at *
  have hAD : 0 ≤ A * D ∧ A * D ≤ 4096 := by omega
  have hw1 : IntKind.i64.wrap (A * D) = A * D := wrapI (by omega)
  have hw2 : IntKind.i64.wrap (ep + 1) = ep + 1 := wrapI (by omega)
  have hU : (w.alloc (.cells #[.int .i64 W, .int .i64 H, .slice a n cap] 24)).heap.size = w.heap.size + 1 := World.size_alloc _ _
  have hUw : Gr w (w.alloc (.cells #[.int .i64 W, .int .i64 H, .slice a n cap] 24)) := (Gr.refl w).alloc _
  have R1 := tri_alloc w (.int .i64 W) (.int .i64 H) (.slice a n cap) 24
  have HC1 := hide hC1
  clear hC1 hN hf0 mm
  go_enter Tryz.func30, Tryz.ntmps30
  go_wp2_with (first | (go_at_call 59; refine (amay_any _ _ _ _ _ f _ (h.gr (by repeat (first | exact Gr.refl _ | assumption | exact Dr.gr (by assumption) | refine Gr.alloc ?_ _ | refine Gr.drewN ?_ _ | refine Gr.drew ?_ | refine Gr.trans ?_ (by assumption) | refine Gr.trans ?_ (Dr.gr (by assumption)))))).mono ?_; rintro e w1 ⟨rfl, hg1⟩; rw [HM.out]; obtain ⟨d1, d2, d3, -, -, -⟩ := row_cells (row_gr R1 hg1)) | (go_at_call 57; refine (HSE.out _).mono ?_; rintro e w2 ⟨rfl, hd2⟩; have hg2 := Dr.gr hd2; clear hd2; replace d1 := cell_gr d1 hg2; replace d2 := cell_gr d2 hg2; replace d3 := cell_gr d3 hg2))
  have hgw := hUw.trans (hg1.trans hg2)
  have hsz := (hg1.trans hg2).size
  generalize (w.alloc (.cells #[.int .i64 W, .int .i64 H, .slice a n cap] 24)) = U at *
  have HCP := hide (fun u (hu : Gr w2 u) => copied_any W H a n cap f u (h.gr (hgw.trans hu)) hn1 hn6)
  have HGW := hide hgw
  clear hgw hg1 hg2
  go_cut [7] from 38 (fun g u => ∃ p c v cc, g = .pointer (some ⟨p, 0, none⟩) ∧ Gd u p c v W H n cc f (ep + 1) (fun _ => 0) ∧ w.heap.size ≤ p ∧ w.heap.size ≤ c ∧ w.heap.size ≤ v ∧ Gr w u)
  case first =>
    go_region_held3 (fun z => z.cell? ⟨w.heap.size, 0, none⟩ = some (.int .i64 W) ∧ z.cell? ⟨w.heap.size, 1, none⟩ = some (.int .i64 H) ∧ z.cell? ⟨w.heap.size, 2, none⟩ = some (.slice a n cap) ∧ Gr w2 z) ((refine keepG ⟨d1, d2, d3⟩ ?_; exact (by (repeat (first | (with_reducible exact Gr.refl _) | (with_reducible assumption) | (with_reducible refine Gr.alloc ?_ _) | (with_reducible refine Gr.drew ?_) | (with_reducible refine Gr.set ?_ (by dsimp only; omega) _) | (with_reducible refine Gr.trans ?_ (by with_reducible assumption)))); first | done | fail))) ((go_at_call 56; have hS := ‹_ ∧ _ ∧ _ ∧ Gr w2 _›; refine (HCP.out _ hS.2.2.2).mono ?_; rintro e w9 ⟨⟨g, c', rfl, ho9⟩, hg9⟩))
    all_goals
      go_wp2_with fail
      go_meet
    · exact new_A ho9 (HGW.out.trans (((Gr.refl w2).drew).trans hg9)) HGW.out HM.out
    · exact new_B ho9 hg9 HGW.out HM.out
  case rest =>
    obtain ⟨p, c, v, cc, rfl, hgd, hp, hc, hv, hgu⟩ := hcut
    have HG := hide hgd
    obtain ⟨c0, c1, c2, c3, c4⟩ := hgd.cells
    clear hgd d1 d2 d3
    go_wp2_with fail
    go_loopw [43] (fun i z => ∃ k : Nat, k ≤ cntS W H ∧ i = .int .i64 k ∧ Gd z p c v W H n cc f (ep + 1) (fun j => if j < k then ep + 1 else 0) ∧ Gr w z) (fun i _ => cntS W H - (intOf i).toNat)
    case atStart => exact ⟨0, Nat.zero_le _, rfl, HG.out.congrV (fun i _ => by simp), hgu⟩
    case round =>
      clear c0 c1 c2 c3 c4 HG
      obtain ⟨k, hk, rfl, hgd, hgr⟩ := hrel
      obtain ⟨c0, c1, c2, c3, c4⟩ := hgd.cells
      by_cases hlt : k < cntS W H
      · have hkI : (k : Int) < (cntS W H : Int) := by omega
        have c5 := hgd.vers.cell hlt
        have f5 := hgd.vers.frozen k
        have hap := hgd.apart.2.1
        have HG := hide ((hgd.gr (Gr.refl wr).drew).setVer k (ep + 1))
        clear hgd
        go_wp2_with fail
        go_region_held3 (fun z => z.cell? ⟨p, 3, none⟩ = some (.int .i64 (ep + 1)) ∧ z.cell? ⟨p, 4, none⟩ = some (.slice (some ⟨v, 0, none⟩) (cntS W H) (cntS W H))) (first | exact ⟨c3, c4⟩ | exact cell2_far ⟨c3, c4⟩ hap) (fail)
        go_wp2_with fail
        go_roundw
        case rel =>
          refine ⟨k + 1, by omega, by go_num, HG.out.congrV (fun i hi => ?_), hgr.drew.set (p := ⟨v, k, none⟩) hv _⟩
          show (if i = k then ep + 1 else if i < k then ep + 1 else 0) = if i < k + 1 then ep + 1 else 0
          by_cases h1 : i = k
          · rw [if_pos h1, if_pos (by omega)]
          · rw [if_neg h1]
            by_cases h2 : i < k
            · rw [if_pos h2, if_pos (by omega)]
            · rw [if_neg h2, if_neg (by omega)]
        case measure => simp [intOf]; omega
      · have hkC : k = cntS W H := by omega
        have HG := hide (hgd.congrV (ver' := fun _ => ep + 1) (fun i hi => by rw [if_pos (by omega)]))
        clear hgd
        go_wp2_with fail
        go_ret
        exact ⟨⟨p, c, v, cc, rfl, HG.out, hp, hc, hv⟩, hgr⟩

/-- a map of numbers may be -/
theorem gmade_may {x y : Int} {n N : Nat} {f : Nat → Int} (hf : ∀ i, i < n → 0 ≤ f i ∧ f i ≤ 255) (hN : (N : Int) = withinF x 1 40 * withinF y 1 40) : mayM (withinF x 1 40) (withinF y 1 40) N (madeF n f) = true := by
  have xb := within_bd x 1 40 (by omega)
  have yb := within_bd y 1 40 (by omega)
  exact (mayM_iff _ _ _ _).2 ⟨(mayB_iff _ _).2 (by omega), hN, fun i _ => by have := madeF_bd hf i; omega⟩
/-- a map's box behind a call that made it -/
theorem gbox (w1 : World) (W H : Int) (g N c' : Nat) (F : Nat → Int) (base : Nat) (hown : OwnB w1 base g N c' F) :
    ((w1.alloc (.cells #[.int .i64 W, .int .i64 H, .slice (some ⟨g, 0, none⟩) N c'] 24)).cell? ⟨w1.heap.size, 0, none⟩ = some (.int .i64 W) ∧ (w1.alloc (.cells #[.int .i64 W, .int .i64 H, .slice (some ⟨g, 0, none⟩) N c'] 24)).cell? ⟨w1.heap.size, 1, none⟩ = some (.int .i64 H) ∧ (w1.alloc (.cells #[.int .i64 W, .int .i64 H, .slice (some ⟨g, 0, none⟩) N c'] 24)).cell? ⟨w1.heap.size, 2, none⟩ = some (.slice (some ⟨g, 0, none⟩) N c')) ∧
    Sl (w1.alloc (.cells #[.int .i64 W, .int .i64 H, .slice (some ⟨g, 0, none⟩) N c'] 24)) (some ⟨g, 0, none⟩) N F :=
  ⟨tri_cells w1 W H (.slice (some ⟨g, 0, none⟩) N c') 24, hown.sl.2.2.2.2.gr ((Gr.refl w1).alloc _)⟩
/-- a map of numbers is small -/
theorem gmade_n {x y : Int} {N : Nat} (hN : (N : Int) = withinF x 1 40 * withinF y 1 40) : 1 ≤ N ∧ N ≤ 1600 := by
  have xb := within_bd x 1 40 (by omega)
  have yb := within_bd y 1 40 (by omega)
  have mb := mul_bd (w := withinF x 1 40) (h := withinF y 1 40) (W := 40) (H := 40) (by omega) (by omega) (by omega) (by omega)
  have mc := Int.mul_le_mul xb.1 yb.1 (by omega) (by omega : (0 : Int) ≤ withinF x 1 40)
  omega

theorem Kp.one (w : World) (b i : Nat) (v : Value) : Kp (fun k => k = b) w (w.setCell ⟨b, i, none⟩ v) := Kp.set (Kp.refl (fun k => k = b) w) (p := ⟨b, i, none⟩) (.inl rfl) v

theorem Gd.dr {w w' : World} {p c v : Nat} {W H : Int} {N cc : Nat} {f : Nat → Int} {ep : Int} {ver : Nat → Int} (h : Gd w p c v W H N cc f ep ver) (g : Dr w w') : Gd w' p c v W H N cc f ep ver := h.gr g.gr

set_option maxHeartbeats 1000000 in
theorem gisCell_dr {w : World} {p c v : Nat} {W H : Int} {N cc : Nat} {f : Nat → Int} {ep : Int} {ver : Nat → Int} (h : Gd w p c v W H N cc f ep ver) (x : Int) :
    Calls Tryz.prog 50 #[.pointer (some ⟨p, 0, none⟩), .int .i64 x] w fun e w' => e = .returned (.bool (decide (0 ≤ x ∧ x < N))) ∧ Dr w w' := by
  obtain ⟨c0, c1, c2, c3, c4⟩ := h.cells
  clear h
  by_cases h0 : 0 ≤ x
  · go_enter Tryz.func50, Tryz.ntmps50
    go_wp2
    go_ret
    exact ⟨ret_bool (by simp [h0]), by repeat (first | exact Dr.refl _ | assumption | refine Dr.add ?_ | refine Dr.trans ?_ (by assumption))⟩
  · go_enter Tryz.func50, Tryz.ntmps50
    go_wp2
    go_ret
    exact ⟨ret_bool (by simp; omega), by repeat (first | exact Dr.refl _ | assumption | refine Dr.add ?_ | refine Dr.trans ?_ (by assumption))⟩

set_option maxHeartbeats 1000000 in
theorem gisSector_dr {w : World} {p c v : Nat} {W H : Int} {N cc : Nat} {f : Nat → Int} {ep : Int} {ver : Nat → Int} (h : Gd w p c v W H N cc f ep ver) (x : Int) :
    Calls Tryz.prog 68 #[.pointer (some ⟨p, 0, none⟩), .int .i64 x] w fun e w' => e = .returned (.bool (decide (0 ≤ x ∧ x < cntS W H))) ∧ Dr w w' := by
  obtain ⟨c0, c1, c2, c3, c4⟩ := h.cells
  clear h
  by_cases h0 : 0 ≤ x
  · go_enter Tryz.func68, Tryz.ntmps68
    go_wp2
    go_ret
    exact ⟨ret_bool (by simp [h0]), by repeat (first | exact Dr.refl _ | assumption | refine Dr.add ?_ | refine Dr.trans ?_ (by assumption))⟩
  · go_enter Tryz.func68, Tryz.ntmps68
    go_wp2
    go_ret
    exact ⟨ret_bool (by simp; omega), by repeat (first | exact Dr.refl _ | assumption | refine Dr.add ?_ | refine Dr.trans ?_ (by assumption))⟩

set_option maxHeartbeats 1000000 in
theorem gcost_dr {w : World} {p c v : Nat} {W H : Int} {N cc : Nat} {f : Nat → Int} {ep : Int} {ver : Nat → Int} (h : Gd w p c v W H N cc f ep ver) (x : Int) :
    Calls Tryz.prog 38 #[.pointer (some ⟨p, 0, none⟩), .int .i64 x] w fun e w' => e = .returned (.int .i64 (gatF N f x)) ∧ Dr w w' := by
  have hb := h.bd
  have HG := hide h
  by_cases h0 : 0 ≤ x ∧ x < N
  · obtain ⟨k, rfl⟩ : ∃ k : Nat, x = k := ⟨x.toNat, by omega⟩
    have hk : k < N := by omega
    have E : Hid (f k = gatF N f k) := hide (by unfold gatF; rw [if_pos h0]; rfl)
    have hby := h.byte k hk
    have hcap := h.cap
    clear h
    have hd : decide (0 ≤ (k : Int) ∧ (k : Int) < N) = true := by simp; omega
    go_enter Tryz.func38, Tryz.ntmps38
    go_wp2_with (go_at_call 50; refine (gisCell_dr HG.out _).mono ?_; rintro e w1 ⟨rfl, hg1⟩; rw [hd]; obtain ⟨c0, c1, c2, c3, c4⟩ := (HG.out.dr hg1).cells; have c5 := (HG.out.dr hg1).cost.cell hk)
    go_ret
    exact ⟨ret_int (by rw [← E.out]; try omega), by repeat (first | exact Dr.refl _ | assumption | refine Dr.add ?_ | refine Dr.trans ?_ (by assumption))⟩
  · have E : Hid (0 = gatF N f x) := hide (by unfold gatF; rw [if_neg h0])
    clear h
    have hd : decide (0 ≤ x ∧ x < N) = false := by simp; omega
    clear h0
    go_enter Tryz.func38, Tryz.ntmps38
    go_wp2_with (go_at_call 50; refine (gisCell_dr HG.out _).mono ?_; rintro e w1 ⟨rfl, hg1⟩; rw [hd])
    go_ret
    exact ⟨ret_int E.out, by repeat (first | exact Dr.refl _ | assumption | refine Dr.add ?_ | refine Dr.trans ?_ (by assumption))⟩

set_option maxHeartbeats 1000000 in
theorem gversion_dr {w : World} {p c v : Nat} {W H : Int} {N cc : Nat} {f : Nat → Int} {ep : Int} {ver : Nat → Int} (h : Gd w p c v W H N cc f ep ver) (x : Int) :
    Calls Tryz.prog 41 #[.pointer (some ⟨p, 0, none⟩), .int .i64 x] w fun e w' => e = .returned (.int .i64 (gatF (cntS W H) ver x)) ∧ Dr w w' := by
  have hb := h.bd
  have HG := hide h
  by_cases h0 : 0 ≤ x ∧ x < cntS W H
  · obtain ⟨k, rfl⟩ : ∃ k : Nat, x = k := ⟨x.toNat, by omega⟩
    have hk : k < cntS W H := by omega
    have E : Hid (ver k = gatF (cntS W H) ver k) := hide (by unfold gatF; rw [if_pos h0]; rfl)
    clear h
    have hd : decide (0 ≤ (k : Int) ∧ (k : Int) < cntS W H) = true := by simp; omega
    go_enter Tryz.func41, Tryz.ntmps41
    go_wp2_with (go_at_call 68; refine (gisSector_dr HG.out _).mono ?_; rintro e w1 ⟨rfl, hg1⟩; rw [hd]; obtain ⟨c0, c1, c2, c3, c4⟩ := (HG.out.dr hg1).cells; have c5 := (HG.out.dr hg1).vers.cell hk)
    go_ret
    exact ⟨ret_int E.out, by repeat (first | exact Dr.refl _ | assumption | refine Dr.add ?_ | refine Dr.trans ?_ (by assumption))⟩
  · have E : Hid (0 = gatF (cntS W H) ver x) := hide (by unfold gatF; rw [if_neg h0])
    clear h
    have hd : decide (0 ≤ x ∧ x < cntS W H) = false := by simp; omega
    clear h0
    go_enter Tryz.func41, Tryz.ntmps41
    go_wp2_with (go_at_call 68; refine (gisSector_dr HG.out _).mono ?_; rintro e w1 ⟨rfl, hg1⟩; rw [hd])
    go_ret
    exact ⟨ret_int E.out, by repeat (first | exact Dr.refl _ | assumption | refine Dr.add ?_ | refine Dr.trans ?_ (by assumption))⟩

end Go.Proofs.YtgbadbkipaccgaaGreat
