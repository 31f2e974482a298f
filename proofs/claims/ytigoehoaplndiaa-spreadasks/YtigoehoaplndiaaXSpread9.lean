/- sweep.Spread. No condition. -/
import Derived.Test.YtigoehoaplndiaaXSpr9
import Derived.Test.YtigoehoaplndiaaSCpt8
import Derived.Test.YtigoehoaplndiaaSRMay8
namespace Go.Proofs.Ytigoehoaplndiaa
open Go.RowKit
set_option maxRecDepth 20000

theorem sds_of {W H : Int} {n : Nat} {f : Nat → Int} {L : List Sd} (hb : ∀ i, i < n → 0 ≤ f i ∧ f i ≤ 255) (h : mayS W H n f L = true) : mayTB W H n f = true ∧ Sds f n 1073741824 L := by
  unfold mayS at h
  rw [Bool.and_eq_true, decide_eq_true_iff] at h
  refine ⟨h.1, fun x hx => ?_⟩
  obtain ⟨i, hi, rfl⟩ := mem_el hx
  obtain ⟨k1, k2, k3, k4, k5⟩ := (okS_iff h.1 hb).1 (h.2 i hi)
  exact ⟨(el L i).1.toNat, by omega, by omega, k2, k3.1, k3.2⟩

set_option maxHeartbeats 1000000 in
theorem spread_no {W H : Int} {al : Option Addr} {n cap : Nat} {f : Nat → Int} {bl : Option Addr} {m c : Nat} {L : List Sd} {w : World}
    (h : Sl w al n f) (g : SlS w bl m c L) (hmay : mayS W H n f L = false) :
    Calls Try.prog 13 #[.agg #[.int .i64 W, .int .i64 H, .slice al n cap], .slice bl m c] w fun e w' => e = .returned (.tuple #[.slice none 0 0, .int .i64 1]) ∧ Gr w w' := by
  obtain ⟨c1, c2, c3⟩ := tri_at w W H (.slice al n cap)
  have hg1 : Gr w (w.alloc (.cells #[.int .i64 W, .int .i64 H, .slice al n cap] 24)) := (Gr.refl w).alloc _
  go_enter Try.func13, Try.ntmps13
  go_wp2_with fail
  generalize (w.alloc (.cells #[.int .i64 W, .int .i64 H, .slice al n cap] 24)) = w1 at *
  refine (smay_any W H al n cap f bl m c L w1 (h.gr hg1) (g.gr hg1)).mono ?_
  rintro e w2 ⟨rfl, hg2⟩
  rw [hmay]
  go_wp2_with fail
  go_ret2
  exact ⟨rfl, hg1.trans hg2⟩

set_option maxHeartbeats 4000000 in
theorem spread_yes {W H : Int} {al : Option Addr} {n cap : Nat} {f : Nat → Int} {bl : Option Addr} {m c : Nat} {L : List Sd} {K : Int} {w : World}
    (h : Sl w al n f) (g : SlS w bl m c L) (ha : bl = none ∨ ∃ b o, bl = some ⟨b, o, none⟩) (hmay : mayS W H n f L = true) (hs : Sds f n K L) (hK0 : 0 ≤ K) (hK : K ≤ 1073741824) (hm8 : m ≤ 800000) :
    Calls Try.prog 13 #[.agg #[.int .i64 W, .int .i64 H, .slice al n cap], .slice bl m c] w fun e w' => (∃ g cf F, e = .returned (.tuple #[.slice (some ⟨g, 0, none⟩) n cf, .int .i64 0]) ∧ w.heap.size ≤ g ∧ FarS w' g cf n F ∧ Sprd (nearF W H n f) f n L F ∧ ∀ i, i < n → F i < 1099511627776 → F i ≤ K + 254 * 255) ∧ Gr w w' := by
  have hm := (sds_of h.byte hmay).1
  have hlen := g.len.1
  have hsl := srt_len L
  obtain ⟨c1, c2, c3⟩ := tri_at w W H (.slice al n cap)
  have hg1 : Gr w (w.alloc (.cells #[.int .i64 W, .int .i64 H, .slice al n cap] 24)) := (Gr.refl w).alloc _
  go_enter Try.func13, Try.ntmps13
  go_wp2_with fail
  generalize (w.alloc (.cells #[.int .i64 W, .int .i64 H, .slice al n cap] 24)) = w1 at *
  generalize hB0 : w.heap.size = B0 at *
  refine (smay_any W H al n cap f bl m c L w1 (h.gr hg1) (g.gr hg1)).mono ?_
  rintro e w2 ⟨rfl, hg2⟩
  rw [hmay]
  replace c1 := cell_gr c1 hg2
  replace c2 := cell_gr c2 hg2
  replace c3 := cell_gr c3 hg2
  have hgr := hg1.trans hg2
  have hw2 := Below.size hgr
  replace h := h.gr hgr
  replace g := g.gr hgr
  have HLEN := hide hlen
  have HSL := hide hsl
  clear hmay hg1 hg2 hlen hsl
  go_upto_region 3 with fail
  go_region_held3 (fun u => u.cell? ⟨B0, 0, none⟩ = some (.int .i64 W) ∧ u.cell? ⟨B0, 1, none⟩ = some (.int .i64 H) ∧ u.cell? ⟨B0, 2, none⟩ = some (.slice al n cap)) (first | exact ⟨c1, c2, c3⟩ | exact ⟨cell_gr c1 hg9, cell_gr c2 hg9, cell_gr c3 hg9⟩) (first
    | (go_at_call 24; refine (sort_any bl m c L _ (g.gr ((Gr.refl w2).drew)) ha (by omega)).mono ?_; rintro e w3 ⟨⟨a3, c3', m3, hm3, rfl, hown⟩, hg3⟩; have HM3 := hide hm3; clear hm3; have hg9 : Gr w2 w3 := ((Gr.refl w2).drew).trans hg3)
    | (go_at_call 23; have hs3 := SlS.of_own hown HM3.out.symm; obtain ⟨a4, c4, e4, hs4⟩ := hs3; cases e4; refine (xspread_any (h.gr (((Gr.refl w2).drew).trans hg3)) hm hs4 hs hK0 hK (by have := HM3.out; have := HLEN.out; have := HSL.out; omega)).mono ?_; rintro e w4 ⟨⟨g4, cf, F, rfl, hge, hfar, hsp, hbd⟩, hg4⟩; have hge2 : w2.heap.size ≤ g4 := Nat.le_trans (Below.size hg9) hge; have hg9 : Gr w2 w4 := ((Gr.refl w2).drew).trans (hg3.trans hg4)))
  have HSP := hide hsp
  have HBD := hide hbd
  clear hsp hbd
  go_wp2_with fail
  go_ret2
  exact ⟨⟨g4, cf, F, rfl, by omega, hfar, HSP.out, HBD.out⟩, hgr.trans hg9⟩
end Go.Proofs.Ytigoehoaplndiaa
