/- The law's few: at most 24 numbers. No condition. -/
import Derived.Test.YtgbadbkipaccgaaGreatBX1
import Derived.Test.YtgbadbkipaccgaaGreatBS3
import Derived.Test.YtgbadbkipaccgaaGreatBM
import Derived.Test.YtgbadbkipaccgaaGreatBT
namespace Go.Proofs.YtgbadbkipaccgaaGreat
open Go.RowKit
set_option maxRecDepth 20000

theorem sds_of {W H : Int} {n : Nat} {f : Nat → Int} {L : List Sd} (hb : ∀ i, i < n → 0 ≤ f i ∧ f i ≤ 255) (h : mayS W H n f L = true) : mayTB W H n f = true ∧ Sds f n 1073741824 L := by
  unfold mayS at h
  rw [Bool.and_eq_true, decide_eq_true_iff] at h
  refine ⟨h.1, fun x hx => ?_⟩
  obtain ⟨i, hi, rfl⟩ := mem_el hx
  obtain ⟨k1, k2, k3, k4, k5⟩ := (okS_iff h.1 hb).1 (h.2 i hi)
  exact ⟨(el L i).1.toNat, by omega, by omega, k2, k3.1, k3.2⟩

set_option maxHeartbeats 1000000 in
theorem spread_no {W H : Int} {al : Option Addr} {n cap : Nat} {f : Nat → Int} {bl : Option Addr} {m c : Nat} {L : List Sd} {w : World}
    (h : Sl w al n f) (g : SlS w bl m c L) (hmay : mayS W H n f L = false) :
    Calls Tryz.prog 95 #[.agg #[.int .i64 W, .int .i64 H, .slice al n cap], .slice bl m c] w fun e w' => e = .returned (.tuple #[.slice none 0 0, .int .i64 1]) ∧ Gr w w' := by
  obtain ⟨c1, c2, c3⟩ := tri_at w W H (.slice al n cap)
  have hg1 : Gr w (w.alloc (.cells #[.int .i64 W, .int .i64 H, .slice al n cap] 83)) := (Gr.refl w).alloc _
  go_enter Tryz.func95, Tryz.ntmps95
  go_wp2_with fail
  generalize (w.alloc (.cells #[.int .i64 W, .int .i64 H, .slice al n cap] 83)) = w1 at *
  refine (smay_any W H al n cap f bl m c L w1 (h.gr hg1) (g.gr hg1)).mono ?_
  rintro e w2 ⟨rfl, hg2⟩
  rw [hmay]
  go_wp2_with fail
  go_ret2
  exact ⟨rfl, hg1.trans hg2⟩

set_option maxHeartbeats 4000000 in
theorem spread_yes {W H : Int} {al : Option Addr} {n cap : Nat} {f : Nat → Int} {bl : Option Addr} {m c : Nat} {L : List Sd} {K : Int} {w : World}
    (h : Sl w al n f) (g : SlS w bl m c L) (ha : bl = none ∨ ∃ b o, bl = some ⟨b, o, none⟩) (hmay : mayS W H n f L = true) (hs : Sds f n K L) (hK0 : 0 ≤ K) (hK : K ≤ 1073741824) (hm8 : m ≤ 800000) :
    Calls Tryz.prog 95 #[.agg #[.int .i64 W, .int .i64 H, .slice al n cap], .slice bl m c] w fun e w' => (∃ g cf F, e = .returned (.tuple #[.slice (some ⟨g, 0, none⟩) n cf, .int .i64 0]) ∧ w.heap.size ≤ g ∧ FarS w' g cf n F ∧ Sprd (nearF W H n f) f n L F ∧ ∀ i, i < n → F i < 1099511627776 → F i ≤ K + 254 * 255) ∧ Gr w w' := by
  have hm := (sds_of h.byte hmay).1
  have hlen := g.len.1
  have hsl := srt_len L
  obtain ⟨c1, c2, c3⟩ := tri_at w W H (.slice al n cap)
  have hg1 : Gr w (w.alloc (.cells #[.int .i64 W, .int .i64 H, .slice al n cap] 83)) := (Gr.refl w).alloc _
  go_enter Tryz.func95, Tryz.ntmps95
  go_wp2_with fail
  generalize (w.alloc (.cells #[.int .i64 W, .int .i64 H, .slice al n cap] 83)) = w1 at *
  generalize hB0 : w.heap.size = B0 at *
  refine (smay_any W H al n cap f bl m c L w1 (h.gr hg1) (g.gr hg1)).mono ?_
  rintro e w2 ⟨rfl, hg2⟩
  rw [hmay]
  replace c1 := cell_gr c1 hg2
  replace c2 := cell_gr c2 hg2
  replace c3 := cell_gr c3 hg2
  have hgr := hg1.trans hg2
  have hw2 := Below.size hgr
  replace h := h.gr hgr
  replace g := g.gr hgr
  have HLEN := hide hlen
  have HSL := hide hsl
  clear hmay hg1 hg2 hlen hsl
  go_upto_region 3 with fail
  go_region_held3 (fun u => u.cell? ⟨B0, 0, none⟩ = some (.int .i64 W) ∧ u.cell? ⟨B0, 1, none⟩ = some (.int .i64 H) ∧ u.cell? ⟨B0, 2, none⟩ = some (.slice al n cap)) (first | exact ⟨c1, c2, c3⟩ | exact ⟨cell_gr c1 hg9, cell_gr c2 hg9, cell_gr c3 hg9⟩) (first
    | (go_at_call 101; refine (sort_any bl m c L _ (g.gr ((Gr.refl w2).drew)) ha (by omega)).mono ?_; rintro e w3 ⟨⟨a3, c3', m3, hm3, rfl, hown⟩, hg3⟩; have HM3 := hide hm3; clear hm3; have hg9 : Gr w2 w3 := ((Gr.refl w2).drew).trans hg3)
    | (go_at_call 100; have hs3 := SlS.of_own hown HM3.out.symm; obtain ⟨a4, c4, e4, hs4⟩ := hs3; cases e4; refine (xspread_any (h.gr (((Gr.refl w2).drew).trans hg3)) hm hs4 hs hK0 hK (by have := HM3.out; have := HLEN.out; have := HSL.out; omega)).mono ?_; rintro e w4 ⟨⟨g4, cf, F, rfl, hge, hfar, hsp, hbd⟩, hg4⟩; have hge2 : w2.heap.size ≤ g4 := Nat.le_trans (Below.size hg9) hge; have hg9 : Gr w2 w4 := ((Gr.refl w2).drew).trans (hg3.trans hg4)))
  have HSP := hide hsp
  have HBD := hide hbd
  clear hsp hbd
  go_wp2_with fail
  go_ret2
  exact ⟨⟨g4, cf, F, rfl, by omega, hfar, HSP.out, HBD.out⟩, hgr.trans hg9⟩

theorem row3 {u : World} {p : Nat} {x y z : Int} (h : u.rowIs p 87 3 (tri (.int .i64 x) (.int .i64 y) (.int .i64 z))) : (u.cell? ⟨p, 0, none⟩ = some (.int .i64 x) ∧ u.cell? ⟨p, 1, none⟩ = some (.int .i64 y) ∧ u.cell? ⟨p, 2, none⟩ = some (.int .i64 z)) ∧ ∀ i, u.frozen? ⟨p, i, none⟩ = false :=
  ⟨⟨h.cell (i := 0) (by omega), h.cell (i := 1) (by omega), h.cell (i := 2) (by omega)⟩, fun i => h.frozen i⟩

theorem tri_set1 (x y z v : Value) : ∀ i, i < 3 → (fun j => if j = 1 then v else tri x y z j) i = tri x v z i := by
  intro i hi
  rcases (by omega : i = 0 ∨ i = 1 ∨ i = 2) with rfl | rfl | rfl <;> rfl
theorem tri_set2 (x y z v : Value) : ∀ i, i < 3 → (fun j => if j = 2 then v else tri x y z j) i = tri x y v i := by
  intro i hi
  rcases (by omega : i = 0 ∨ i = 1 ∨ i = 2) with rfl | rfl | rfl <;> rfl
/-- a seed as the document's Seeds makes it -/
def sdOk (W H : Int) (n : Nat) (f : Nat → Int) (x : Sd) : Prop := ∃ C : Nat, x.1 = (C : Int) ∧ C < n ∧ f C ≠ 255 ∧ (0 ≤ x.2.2 ∧ x.2.2 ≤ 1073741824) ∧ (0 ≤ x.2.1 ∧ x.2.1 ≤ 4) ∧ (x.2.1 = 4 ∨ stepF W H (C : Int) x.2.1 < 0)
theorem mayS_ok {W H : Int} {n : Nat} {f : Nat → Int} {M : List Sd} (hm : mayTB W H n f = true) (hb : ∀ i, i < n → 0 ≤ f i ∧ f i ≤ 255) (h : ∀ x, x ∈ M → sdOk W H n f x) : mayS W H n f M = true := by
  refine mayS_yes rfl hm fun j hj => ?_
  obtain ⟨C, e, h1, h2, h3, h4, h5⟩ := h _ (el_mem hj)
  refine (okS_iff hm hb).2 ⟨by omega, ?_, h3, h4, ?_⟩
  · rw [e]; exact h2
  · rcases h5 with h5 | h5
    · exact .inl h5
    · refine .inr ?_
      have hl : isLocB W H n f (C : Int) = true := (isLocB_iff _ _ _ _ _).2 ⟨hm, by omega, by omega⟩
      rw [e]
      simp only [nearF, hl, if_true]
      exact h5
theorem FarS.sli {w : World} {g c n : Nat} {F : Nat → Int} (h : FarS w g c n F) : SlI w (some ⟨g, 0, none⟩) n F := by
  obtain ⟨c', a', e, h3⟩ := SlI.of_own (h.own (Nat.zero_le _))
  cases e
  exact h3.2.2
def f9 : Nat → Int := fun i => if i = 0 then 5 else if i = 1 then 2 else 9
def d9 : Nat → Int := fun i => if i = 0 then 11 else if i = 1 then 9 else 0
theorem told_edge : ∀ (c : Fin 3) (s : Fin 4) (m : Fin 3), nearF 3 1 3 f9 (c.val : Int) (s.val : Int) = (m.val : Int) → d9 c.val ≤ d9 m.val + f9 m.val := by decide
theorem told_may : mayS 3 1 3 f9 [((2, 4, 0) : Sd)] = true := by decide
theorem f9_byte : ∀ i, i < 3 → 0 ≤ f9 i ∧ f9 i ≤ 255 := by
  intro i hi
  rcases (by omega : i = 0 ∨ i = 1 ∨ i = 2) with rfl | rfl | rfl <;> decide
theorem told_sprd : Sprd (nearF 3 1 3 f9) f9 3 [((2, 4, 0) : Sd)] d9 := by
  obtain ⟨hm, hs⟩ := sds_of f9_byte told_may
  have t2 : Told (nearF 3 1 3 f9) f9 3 [((2, 4, 0) : Sd)] 2 0 := .seed 2 (2, 4, 0) (.head _) rfl
  have t1 : Told (nearF 3 1 3 f9) f9 3 [((2, 4, 0) : Sd)] 1 9 := .step 1 2 1 0 t2 (by decide) (by decide) (by decide) (by decide) (by decide) (by decide) (by decide)
  have t0 : Told (nearF 3 1 3 f9) f9 3 [((2, 4, 0) : Sd)] 0 11 := .step 0 1 1 9 t1 (by decide) (by decide) (by decide) (by decide) (by decide) (by decide) (by decide)
  refine Sprd.of (gph_of hm f9_byte) (fun c hc => ?_) (fun c hc _ => ?_) (fun x hx c e => ?_) (fun c m s a1 a2 a3 a4 a5 _ _ _ => ?_)
  · rcases (by omega : c = 0 ∨ c = 1 ∨ c = 2) with rfl | rfl | rfl <;> decide
  · rcases (by omega : c = 0 ∨ c = 1 ∨ c = 2) with rfl | rfl | rfl
    · exact t0
    · exact t1
    · exact t2
  · obtain rfl := List.mem_singleton.1 hx
    simp only at e
    obtain rfl : c = 2 := by omega
    decide
  · have h := told_edge ⟨c, a1⟩ ⟨s.toNat, by omega⟩ ⟨m, a2⟩
    simp only at h
    exact h (by rw [show ((s.toNat : Nat) : Int) = s by omega]; exact a5)
theorem three_ints (w : World) (x y z : Int) (F : Nat → Int) (h0 : F 0 = x) (h1 : F 1 = y) (h2 : F 2 = z) : SlI (w.alloc (.cells #[.int .i64 x, .int .i64 y, .int .i64 z] 3)) (some ⟨w.heap.size, 0, none⟩) 3 F := by
  have e : (w.alloc (.cells #[.int .i64 x, .int .i64 y, .int .i64 z] 3)).ownsRow w.heap.size 3 1 (.slice (some ⟨w.heap.size, 0, none⟩) 3 3) 3 (cel .i64 3 F) :=
    ⟨rfl, .inr ⟨_, 3, _, rfl, Nat.le_refl _, Go.Deep.blk_alloc_new _ _, Nat.le_refl _, by unfold maxLen; omega, rfl, by simp [cel, List.range, List.range.loop, h0, h1, h2]⟩⟩
  obtain ⟨c', a', e', h3⟩ := SlI.of_own e
  cases e'
  exact h3.2.2
theorem three_bytes (w : World) : Sl (w.alloc (.cells #[.int .u8 5, .int .u8 2, .int .u8 9] 5)) (some ⟨w.heap.size, 0, none⟩) 3 f9 := by
  have e : (w.alloc (.cells #[.int .u8 5, .int .u8 2, .int .u8 9] 5)).ownsRow w.heap.size 5 1 (.slice (some ⟨w.heap.size, 0, none⟩) 3 3) 3 (cel .u8 3 f9) :=
    ⟨rfl, .inr ⟨_, 3, _, rfl, Nat.le_refl _, Go.Deep.blk_alloc_new _ _, Nat.le_refl _, by unfold maxLen; omega, rfl, by simp [cel, List.range, List.range.loop, f9]⟩⟩
  obtain ⟨c', a', e', h3⟩ := Sl.of_own e f9_byte
  cases e'
  exact h3.2.2

theorem IsRow.room {k : IntKind} {w : World} {a : Option Addr} {len cap : Nat} {zs : List Int} (h : IsRow k w a len cap zs) : len ≤ cap ∧ cap ≤ maxLen := by
  rcases h with ⟨rfl, rfl, rfl, rfl⟩ | ⟨x, rfl, hl, hm, hz, hc, hw⟩
  · exact ⟨Nat.le_refl _, Nat.zero_le _⟩
  · exact ⟨hl, hm⟩
theorem plain_own {w : World} {base n c k : Nat} {e : TypeId} {a : Option Addr} {xs : List Value} (h : w.ownsRow base e k (.slice a n c) n xs) : a = none ∨ ∃ b o, a = some ⟨b, o, none⟩ := by
  rcases h.2 with ⟨e, _⟩ | ⟨g, cap, cur, e, _⟩
  · cases e; exact .inl rfl
  · cases e; exact .inr ⟨g, 0, rfl⟩
theorem sls_own {w : World} {base n c : Nat} {a : Option Addr} {L : List Sd} (h : w.ownsRow base 87 3 (.slice a n c) n (flatS L)) (hl : L.length = n) : SlS w a n c L := by
  obtain ⟨a', c', e, h'⟩ := SlS.of_own h hl
  cases e
  exact h'
end Go.Proofs.YtgbadbkipaccgaaGreat
