/- sweep.spread: the sweep from sorted seeds on. No condition. -/
import Derived.Test.YtigoehoaplndiaaXReach9
import Derived.Test.YtigoehoaplndiaaXEnter9
import Derived.Test.YtigoehoaplndiaaXRep9
import Derived.Deep.LoopGhost
namespace Go.Proofs.Ytigoehoaplndiaa
open Go.RowKit
set_option maxRecDepth 20000

set_option maxHeartbeats 4000000 in
theorem xspread_any {W H : Int} {al : Option Addr} {n cap : Nat} {f : Nat → Int} {bl : Option Addr} {m c : Nat} {L : List Sd} {K : Int} {w : World}
    (h : Sl w al n f) (hm : mayTB W H n f = true) (hR : SlS w bl m c (srt L)) (hs : Sds f n K L) (hK0 : 0 ≤ K) (hK : K ≤ 1073741824) (hm8 : m ≤ 800000) :
    Calls Try.prog 23 #[.agg #[.int .i64 W, .int .i64 H, .slice al n cap], .slice bl m c] w fun e w' => (∃ g cf F, e = .returned (.slice (some ⟨g, 0, none⟩) n cf) ∧ w.heap.size ≤ g ∧ FarS w' g cf n F ∧ Sprd (nearF W H n f) f n L F ∧ ∀ i, i < n → F i < 1099511627776 → F i ≤ K + 254 * 255) ∧ Gr w w' := by
  have hgph := gph_of hm h.byte
  have hn1 := (mayTB_n hm).1
  have hn2 := (mayTB_n hm).2.1
  obtain ⟨b, o, rfl, hb, hcell⟩ := h.at (by omega)
  obtain ⟨c1, c2, c3⟩ := tri_at w W H (.slice (some ⟨b, o, none⟩) n cap)
  have hg1 : Gr w (w.alloc (.cells #[.int .i64 W, .int .i64 H, .slice (some ⟨b, o, none⟩) n cap] 24)) := (Gr.refl w).alloc _
  obtain ⟨w1, hw1⟩ : ∃ w1, w1 = (w.alloc (.cells #[.int .i64 W, .int .i64 H, .slice (some ⟨b, o, none⟩) n cap] 24)) := ⟨_, rfl⟩
  rw [← hw1] at c1 c2 c3 hg1
  have hx := cell_new1 w1 (.int .i64 1099511627776) 3
  have hg2 : Gr w1 (w1.alloc (.cells #[.int .i64 1099511627776] 3)) := (Gr.refl w1).alloc _
  obtain ⟨w2, hw2⟩ : ∃ w2, w2 = (w1.alloc (.cells #[.int .i64 1099511627776] 3)) := ⟨_, rfl⟩
  rw [← hw2] at hx hg2
  have d0 := cell_gr c3 hg2
  have hs1 := h.gr hg1
  have hR1 := hR.gr hg1
  have hwg := Below.size hg1
  go_enter Try.func23, Try.ntmps23
  go_upto_region 1 with fail
  rw [← hw1]
  clear hw1
  generalize hB0 : w.heap.size = B0 at *
  rw [hw2] at d0
  go_wp2_with fail
  rw [← hw2] at d0 ⊢
  clear hw2
  refine (rep_any _ 0 1 1099511627776 n w2 hx hn1 hn2).mono ?_
  rintro e w3 ⟨⟨g, rfl, hge, hfar⟩, hg3⟩
  replace hge : w1.heap.size ≤ g := Nat.le_trans (Below.size hg2) hge
  replace hg3 := hg2.trans hg3
  clear hg2 hx d0
  go_wp2_with fail
  refine (dnew hg3 hfar hge).mono ?_
  rintro e w4 ⟨p, rfl, hD⟩
  clear hfar hg3
  go_wp2_with fail
  go_loopg [1] (m + 5 * n) (fun k v u => ∃ (bl' : Option Addr) (m' c' : Nat) (a : Int) (Q : List (Int × Int)) (R : List Sd) (F : Nat → Int) (c0 : Nat), v = .slice bl' m' c' ∧ SlS w1 bl' m' c' R ∧ Dj w1 (fun b => b = g) u g n n F p a Q ∧ Dk (nearF W H n f) f n L K F a Q R c0 4 ∧ Hid (Q.length + m' + 5 * (n - cntF F n) ≤ k ∧ k ≤ m + 5 * n))
  case atStart => exact ⟨bl, m, c, 0, [], srt L, _, 0, rfl, hR1, hD, Dk.start hK0 hs, hide (by rw [cnt_none]; simp)⟩
  case round =>
    obtain ⟨bl', m', c', a, Q, R, F, c0, rfl, hR', hD', hk, HM⟩ := hrel
    generalize wr = w5 at *
    clear hR hR1 hD
    have hcl := cnt_le F n
    have hhi := hk.hi
    go_wp2_with fail
    refine (enter_any hD' hk hs hK hR' (by have := HM.out; omega) (by omega)).mono ?_
    clear hR' hk hhi hD'
    rintro e u1 ⟨al', m1, cc1, a1, Q1, R1, rfl, hR', hD', hk, hfar1, hlen, hemp⟩
    have HL := hide hlen
    have HE := hide hemp
    have hhi := hk.hi
    clear hlen hemp
    by_cases hQ1 : Q1 = []
    · subst hQ1
      have hR1 := HE.out rfl
      subst hR1
      obtain ⟨hsp, hbd⟩ := hk.end hgph hK
      have HS := hide hsp
      have HB := hide hbd
      clear hsp hbd hk
      go_wp2_with fail
      refine (dpop_no hD').mono ?_
      rintro e u2 ⟨rfl, hu2⟩
      subst hu2
      go_wp2_with fail
      go_ret
      exact ⟨⟨g, n, F, rfl, by omega, hD'.far, HS.out, HB.out⟩, hg1.trans hD'.gr⟩
    · obtain ⟨i, k, x, hf⟩ := exists_first Q1 hQ1
      obtain ⟨ci, hci, hcn, hco, hct, hcb⟩ := hk.item _ hf.mem
      simp only at hci
      subst hci
      have hnr := hD'.near _ hf.mem
      simp only at hnr
      have hkr : ∀ x, x ∈ R1 → k ≤ x.2.2 := fun y hy => by have := hfar1 y hy; omega
      have hle := erase_len hf
      have hqp : 0 < Q1.length := List.length_pos_iff.2 hQ1
      have hnear := hD'.near
      have hcn' : (ci : Int) < (n : Int) := by omega
      have hci0 : (0 : Int) ≤ (ci : Int) := by omega
      clear hfar1 hct hcb
      go_wp2_with fail
      refine (dpop hD' (by omega) hf (by have := HM.out; have := HL.out; omega)).mono ?_
      clear hD'
      rintro e u2 ⟨rfl, hD', _⟩
      have y1 := hD'.far.cell hcn
      have y2 := hD'.far.frozen ci
      by_cases hFi : F ci = 1099511627776
      · obtain ⟨hk2, hka, hkb, hcu, _, _⟩ := hk.popNew hn2 hK hnear hkr hf hFi
        have hlt := cnt_lt hFi hcn
        rw [hFi] at y1
        have HF := hide hFi
        have HCU := hide hcu
        have HLE := hide hle
        clear hFi hcu hle
        have hD3 := hD'.set ci k
        have d1 := cell_gr c1 hD3.gr
        have d2 := cell_gr c2 hD3.gr
        have d3 := cell_gr c3 hD3.gr
        obtain ⟨u3, hu3⟩ : ∃ u3, u3 = u2.setCell ⟨g, ci, none⟩ (.int .i64 k) := ⟨_, rfl⟩
        rw [← hu3] at hD3 d1 d2 d3
        go_upto_region 9 with fail
        rw [← hu3]
        clear hu3 y1 y2 hD'
        have hsl := hs1.gr hD3.gr
        go_wp2_with fail
        refine (reach_any hs1 hm hD3 hk2 (upF_at F ci k) hcn hco (by omega) hka (by have := HM.out; have := HL.out; have := HLE.out; omega)).mono ?_
        rintro e u4 ⟨rfl, Q2, hD4, hk4, hl4⟩
        have HL4 := hide hl4
        clear hl4
        go_wp2_with fail
        go_roundg (gk - 1)
        case measure => have := HM.out; have := HL.out; omega
        case rel => exact ⟨al', m1, cc1, k, Q2, R1, upF F ci k, ci, rfl, hR', hD4, hk4, hide (by have := HM.out; have := HL.out; have := HL4.out; have := HLE.out; have := HCU.out; omega)⟩
      · have hk2 := hk.popOld hnear hkr hf hFi
        have e3 : (F ci == 1099511627776) = false := by simpa using hFi
        obtain ⟨v2, hv2⟩ : ∃ v2, v2 = F ci := ⟨_, rfl⟩
        rw [← hv2] at y1 e3
        have HLE := hide hle
        clear hFi hle hv2
        go_wp2_with fail
        go_roundg (gk - 1)
        case measure => have := HM.out; have := HL.out; omega
        case rel => exact ⟨al', m1, cc1, k, _, R1, F, c0, rfl, hR', hD', hk2, hide (by have := HM.out; have := HL.out; have := HLE.out; omega)⟩
end Go.Proofs.Ytigoehoaplndiaa
