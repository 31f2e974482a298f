/- TallyBytes' walk: the bytes are the counts', the lowest first, and unlike counts have unlike bytes. Conditions: the counts are numbers of 64 bits. -/
import Derived.Test.YtkekljlkgnfofaaYBytes
import Derived.Test.YtkekljlkgnfofaaYEq
import Derived.Test.YtkekljlkgnfofaaTRow6
import Derived.Deep.CutRange
namespace Go.Proofs.Ytkekljlkgnfofaa
open Go.RowKit

theorem u_top {x : Int} (h : U x) : x / (256 : Int) ^ 8 = 0 := by
  unfold U at h
  rw [show (256 : Int) ^ 8 = 18446744073709551616 by decide]
  omega
theorem bytes_tell {x y : Int} (hx : U x) (hy : U y) (h : ∀ j, j < 8 → x / (256 : Int) ^ j % 256 = y / (256 : Int) ^ j % 256) : x = y := by
  have H : ∀ k, k ≤ 8 → x / (256 : Int) ^ (8 - k) = y / (256 : Int) ^ (8 - k) := by
    intro k
    induction k with
    | zero => intro _; rw [Nat.sub_zero, u_top hx, u_top hy]
    | succ k ih =>
      intro hk
      have e := ih (by omega)
      have e2 := h (8 - (k + 1)) (by omega)
      rw [show 8 - k = 8 - (k + 1) + 1 by omega, ← quo_step, ← quo_step] at e
      omega
  have := H 8 (by omega)
  simpa using this
theorem eqB_iff (f g : Nat → Int) : eqB f g = true ↔ ∀ i, i < 6 → f i = g i := by
  simp only [eqB, Bool.and_eq_true, beq_iff_eq]
  constructor
  · rintro ⟨⟨⟨⟨⟨h0, h1⟩, h2⟩, h3⟩, h4⟩, h5⟩ i hi
    rcases (by omega : i = 0 ∨ i = 1 ∨ i = 2 ∨ i = 3 ∨ i = 4 ∨ i = 5) with rfl | rfl | rfl | rfl | rfl | rfl <;> assumption
  · intro h
    exact ⟨⟨⟨⟨⟨h 0 (by omega), h 1 (by omega)⟩, h 2 (by omega)⟩, h 3 (by omega)⟩, h 4 (by omega)⟩, h 5 (by omega)⟩
theorem same_eq {f g : Nat → Int} (hf : ∀ i, i < 6 → U (f i)) (hg : ∀ i, i < 6 → U (g i)) : sameB 48 (bytF f) 48 (bytF g) = eqB f g := by
  rw [Bool.eq_iff_iff, sameB_iff, eqB_iff]
  constructor
  · rintro ⟨_, h⟩ i hi
    refine bytes_tell (hf i hi) (hg i hi) fun j hj => ?_
    have := h (8 * i + j) (by omega)
    rwa [bytF_at _ _ _ hj, bytF_at _ _ _ hj] at this
  · intro h
    refine ⟨rfl, fun i hi => ?_⟩
    unfold bytF
    rw [h (i / 8) (by omega)]

set_option maxHeartbeats 4000000 in
set_option maxRecDepth 20000 in
theorem tallyBytes_any (f g : Nat → Int) (w : World) (hf : ∀ i, i < 6 → U (f i)) (hg : ∀ i, i < 6 → U (g i)) :
    Calls Try.prog 6 #[.agg #[.int .u64 (f 0), .int .u64 (f 1), .int .u64 (f 2), .int .u64 (f 3), .int .u64 (f 4), .int .u64 (f 5)], .agg #[.int .u64 (g 0), .int .u64 (g 1), .int .u64 (g 2), .int .u64 (g 3), .int .u64 (g 4), .int .u64 (g 5)]] w fun e w' => e = .returned (.bool true) ∧ Gr w w' := by
  go_enter Try.func6, Try.ntmps6
  obtain ⟨w2, hw2⟩ : ∃ w2, w2 = ((w.alloc (.cells #[.int .u64 (f 0), .int .u64 (f 1), .int .u64 (f 2), .int .u64 (f 3), .int .u64 (f 4), .int .u64 (f 5)] 27)).alloc (.cells #[.int .u64 (g 0), .int .u64 (g 1), .int .u64 (g 2), .int .u64 (g 3), .int .u64 (g 4), .int .u64 (g 5)] 27)) := ⟨_, rfl⟩
  go_upto_region 1 with fail
  rw [← hw2]
  have hgw : Gr w w2 := hw2 ▸ ((Gr.refl w).alloc _).alloc _
  have cf : w2.cell? ⟨w.heap.size, 0, none⟩ = some (.int .u64 (f 0)) ∧ w2.cell? ⟨w.heap.size, 1, none⟩ = some (.int .u64 (f 1)) ∧ w2.cell? ⟨w.heap.size, 2, none⟩ = some (.int .u64 (f 2)) ∧ w2.cell? ⟨w.heap.size, 3, none⟩ = some (.int .u64 (f 3)) ∧ w2.cell? ⟨w.heap.size, 4, none⟩ = some (.int .u64 (f 4)) ∧ w2.cell? ⟨w.heap.size, 5, none⟩ = some (.int .u64 (f 5)) := by subst hw2; simp [go_sem]
  have cg : w2.cell? ⟨(w.heap.size + 1), 0, none⟩ = some (.int .u64 (g 0)) ∧ w2.cell? ⟨(w.heap.size + 1), 1, none⟩ = some (.int .u64 (g 1)) ∧ w2.cell? ⟨(w.heap.size + 1), 2, none⟩ = some (.int .u64 (g 2)) ∧ w2.cell? ⟨(w.heap.size + 1), 3, none⟩ = some (.int .u64 (g 3)) ∧ w2.cell? ⟨(w.heap.size + 1), 4, none⟩ = some (.int .u64 (g 4)) ∧ w2.cell? ⟨(w.heap.size + 1), 5, none⟩ = some (.int .u64 (g 5)) := by subst hw2; simp [go_sem]
  clear hw2
  generalize w.heap.size = B0 at *
  have C0 : Hid (Gr w2 w2 ∧ (w2.cell? ⟨B0, 0, none⟩ = some (.int .u64 (f 0)) ∧ w2.cell? ⟨B0, 1, none⟩ = some (.int .u64 (f 1)) ∧ w2.cell? ⟨B0, 2, none⟩ = some (.int .u64 (f 2)) ∧ w2.cell? ⟨B0, 3, none⟩ = some (.int .u64 (f 3)) ∧ w2.cell? ⟨B0, 4, none⟩ = some (.int .u64 (f 4)) ∧ w2.cell? ⟨B0, 5, none⟩ = some (.int .u64 (f 5))) ∧ (w2.cell? ⟨(B0 + 1), 0, none⟩ = some (.int .u64 (g 0)) ∧ w2.cell? ⟨(B0 + 1), 1, none⟩ = some (.int .u64 (g 1)) ∧ w2.cell? ⟨(B0 + 1), 2, none⟩ = some (.int .u64 (g 2)) ∧ w2.cell? ⟨(B0 + 1), 3, none⟩ = some (.int .u64 (g 3)) ∧ w2.cell? ⟨(B0 + 1), 4, none⟩ = some (.int .u64 (g 4)) ∧ w2.cell? ⟨(B0 + 1), 5, none⟩ = some (.int .u64 (g 5)))) := hide ⟨Gr.refl _, cf, cg⟩
  have KK : Hid (∀ u, Gr w2 u → Gr w2 u ∧ u.cell? ⟨B0, 0, none⟩ = some (.int .u64 (f 0)) ∧ u.cell? ⟨B0, 1, none⟩ = some (.int .u64 (f 1)) ∧ u.cell? ⟨B0, 2, none⟩ = some (.int .u64 (f 2)) ∧ u.cell? ⟨B0, 3, none⟩ = some (.int .u64 (f 3)) ∧ u.cell? ⟨B0, 4, none⟩ = some (.int .u64 (f 4)) ∧ u.cell? ⟨B0, 5, none⟩ = some (.int .u64 (f 5)) ∧ u.cell? ⟨(B0 + 1), 0, none⟩ = some (.int .u64 (g 0)) ∧ u.cell? ⟨(B0 + 1), 1, none⟩ = some (.int .u64 (g 1)) ∧ u.cell? ⟨(B0 + 1), 2, none⟩ = some (.int .u64 (g 2)) ∧ u.cell? ⟨(B0 + 1), 3, none⟩ = some (.int .u64 (g 3)) ∧ u.cell? ⟨(B0 + 1), 4, none⟩ = some (.int .u64 (g 4)) ∧ u.cell? ⟨(B0 + 1), 5, none⟩ = some (.int .u64 (g 5))) := hide (by
    intro u hu
    refine ⟨hu, ?_⟩
    obtain ⟨c0, c1, c2, c3, c4, c5⟩ := cf
    obtain ⟨d0, d1, d2, d3, d4, d5⟩ := cg
    exact ⟨cell_gr6 c0 hu, cell_gr6 c1 hu, cell_gr6 c2 hu, cell_gr6 c3 hu, cell_gr6 c4 hu, cell_gr6 c5 hu, cell_gr6 d0 hu, cell_gr6 d1 hu, cell_gr6 d2 hu, cell_gr6 d3 hu, cell_gr6 d4 hu, cell_gr6 d5 hu⟩)
  have B1 := hide (fun u => bytes_any f u hf)
  have B2 := hide (fun u => bytes_any g u hg)
  go_region_held3 (fun u => Gr w2 u ∧ u.cell? ⟨B0, 0, none⟩ = some (.int .u64 (f 0)) ∧ u.cell? ⟨B0, 1, none⟩ = some (.int .u64 (f 1)) ∧ u.cell? ⟨B0, 2, none⟩ = some (.int .u64 (f 2)) ∧ u.cell? ⟨B0, 3, none⟩ = some (.int .u64 (f 3)) ∧ u.cell? ⟨B0, 4, none⟩ = some (.int .u64 (f 4)) ∧ u.cell? ⟨B0, 5, none⟩ = some (.int .u64 (f 5)) ∧ u.cell? ⟨(B0 + 1), 0, none⟩ = some (.int .u64 (g 0)) ∧ u.cell? ⟨(B0 + 1), 1, none⟩ = some (.int .u64 (g 1)) ∧ u.cell? ⟨(B0 + 1), 2, none⟩ = some (.int .u64 (g 2)) ∧ u.cell? ⟨(B0 + 1), 3, none⟩ = some (.int .u64 (g 3)) ∧ u.cell? ⟨(B0 + 1), 4, none⟩ = some (.int .u64 (g 4)) ∧ u.cell? ⟨(B0 + 1), 5, none⟩ = some (.int .u64 (g 5))) (first | (with_reducible assumption) | exact KK.out _ hG | exact KK.out _ ((Gr.refl _).drew)) (first | (go_at_call 12; have hS := (‹Gr w2 _ ∧ _›).1; (first | ((with_reducible refine (B1.out _).mono ?_); rintro e wx ⟨⟨gx, cx, rfl, hox⟩, hgx⟩; have hG := hS.trans hgx) | ((with_reducible refine (B2.out _).mono ?_); rintro e wy ⟨⟨gy, cy, rfl, hoy⟩, hgy⟩; have hG := hS.trans hgy))))
  have hgwy : Gr w wy := hgw.trans hG
  have hK := (KK.out _ hG).2
  obtain ⟨a1, cap1, e1, _, _, hx⟩ := Sl.of_own (own_gr hox hgy) (fun i _ => bytF_bd f i)
  cases e1
  obtain ⟨a2, cap2, e2, _, _, hy⟩ := Sl.of_own hoy (fun i _ => bytF_bd g i)
  cases e2
  clear B1 B2 C0 KK cf cg hS hG hgy hoy hox hgx hgw
  repeat clear ‹Gr _ _ ∧ _›
  clear hS hG
  obtain ⟨w4, hw4⟩ : ∃ w4, w4 = (wy.alloc (.cells #[.int .u64 (f 0), .int .u64 (f 1), .int .u64 (f 2), .int .u64 (f 3), .int .u64 (f 4), .int .u64 (f 5)] 33)) := ⟨_, rfl⟩
  go_wp2_with fail
  rw [← hw4]
  have hB : w4.heap.size = wy.heap.size + 1 := by rw [hw4, World.size_alloc]
  have hg4 : Gr wy w4 := hw4 ▸ (Gr.refl wy).alloc _
  have cl : ∀ i, i < 6 → w4.cell? ⟨wy.heap.size, i, none⟩ = some (.int .u64 (f i)) := by
    intro i hi
    subst hw4
    rcases (by omega : i = 0 ∨ i = 1 ∨ i = 2 ∨ i = 3 ∨ i = 4 ∨ i = 5) with rfl | rfl | rfl | rfl | rfl | rfl <;> simp [go_sem]
  have h0 : Gr w w4 := hgwy.trans hg4
  replace hx := hx.gr hg4
  replace hy := hy.gr hg4
  obtain ⟨c0, c1, c2, c3, c4, c5, d0, d1, d2, d3, d4, d5⟩ := hK
  replace c0 := cell_gr6 c0 hg4
  replace c1 := cell_gr6 c1 hg4
  replace c2 := cell_gr6 c2 hg4
  replace c3 := cell_gr6 c3 hg4
  replace c4 := cell_gr6 c4 hg4
  replace c5 := cell_gr6 c5 hg4
  replace d0 := cell_gr6 d0 hg4
  replace d1 := cell_gr6 d1 hg4
  replace d2 := cell_gr6 d2 hg4
  replace d3 := cell_gr6 d3 hg4
  replace d4 := cell_gr6 d4 hg4
  replace d5 := cell_gr6 d5 hg4
  have CC := hide (And.intro c0 (And.intro c1 (And.intro c2 (And.intro c3 (And.intro c4 (And.intro c5 (And.intro d0 (And.intro d1 (And.intro d2 (And.intro d3 (And.intro d4 d5)))))))))))
  have CL := hide cl
  have XX := hide hx
  have YY := hide hy
  clear c0 c1 c2 c3 c4 c5 d0 d1 d2 d3 d4 d5 cl hg4 hgwy hw4 hB hx hy
  generalize wy.heap.size = B at *
  go_loopw [8] (fun i u => ∃ k : Nat, k ≤ 48 ∧ i = .int .i64 k ∧ Gr w4 u) (fun i _ => 48 - (intOf i).toNat)
  case atStart => exact ⟨0, Nat.zero_le _, rfl, Gr.refl _⟩
  case round =>
    obtain ⟨k, hk, rfl, hgr⟩ := hrel
    by_cases h48 : k = 48
    · subst h48
      obtain ⟨c0, c1, c2, c3, c4, c5, d0, d1, d2, d3, d4, d5⟩ := CC.out
      have s1 := fun n => run_conv (XX.out.gr (hgr.drewN n)) cx
      have s2 := fun n => run_conv (YY.out.gr (hgr.drewN n)) cy
      have hq6 := eq6 f g
      have HE : Hid (((strF 48 (bytF f)).toList == (strF 48 (bytF g)).toList) = eqB f g) := hide (by rw [strF_dec (fun i _ => bytF_bd f i) (fun i _ => bytF_bd g i), same_eq hf hg])
      have HT := hide (fun u (hu : Dr wr u) => (told_any u).mono (fun e w' h => (⟨h.1, h.2 ▸ Dr.refl u⟩ : e = .returned (.bool true) ∧ Dr u w')))
      replace c0 := cell_gr6 c0 hgr
      replace c1 := cell_gr6 c1 hgr
      replace c2 := cell_gr6 c2 hgr
      replace c3 := cell_gr6 c3 hgr
      replace c4 := cell_gr6 c4 hgr
      replace c5 := cell_gr6 c5 hgr
      replace d0 := cell_gr6 d0 hgr
      replace d1 := cell_gr6 d1 hgr
      replace d2 := cell_gr6 d2 hgr
      replace d3 := cell_gr6 d3 hgr
      replace d4 := cell_gr6 d4 hgr
      replace d5 := cell_gr6 d5 hgr
      go_upto_region 10 with fail
      go_quiet (first | (go_at_call 9; refine Dr.quiet (HT.out _ ⟨_, rfl⟩)))
      go_wp2
      go_ret
      exact ⟨ret_bool (by rw [HE.out, beq_self_eq_true]), (h0.trans hgr).drewN _⟩
    · obtain ⟨q, j, hkq, hj, hq⟩ : ∃ q j : Nat, k = 8 * q + j ∧ j < 8 ∧ q < 6 := ⟨k / 8, k % 8, by omega, by omega, by omega⟩
      have hxc := (XX.out).at (by omega)
      obtain ⟨b, o, e, _, hxc⟩ := hxc
      cases e
      replace hxc := cell_gr6 (hxc k (by omega)) hgr
      rw [Nat.zero_add] at hxc
      have hlc := cell_gr6 (CL.out q hq) hgr
      have e1 : (k : Int) / 8 = (q : Int) := by omega
      have e2 : (k : Int) % 8 = (j : Int) := by omega
      have k0 : 0 ≤ (k : Int) := by omega
      have k1 : (k : Int) < 48 := by omega
      have q0 : 0 ≤ (q : Int) := by omega
      have q1 : (q : Int) < 6 := by omega
      rw [hkq, bytF_at _ _ _ hj, ← hkq] at hxc
      have hv := hf q hq
      generalize f q = v at hxc hlc hv
      unfold U at hv
      clear hkq
      go_upto_region 8 with fail
      rcases (by omega : j = 0 ∨ j = 1 ∨ j = 2 ∨ j = 3 ∨ j = 4 ∨ j = 5 ∨ j = 6 ∨ j = 7) with rfl | rfl | rfl | rfl | rfl | rfl | rfl | rfl
      · have e3 : (k : Int) % 8 = 0 := e2
        have hxd : wr.cell? ⟨gx, k, none⟩ = some (.int .u8 (v % 256)) := by rw [hxc, Int.pow_zero, Int.ediv_one]
        clear e2 hxc
        go_quiet (fail)
        go_wp2_with fail
        go_roundw
        case rel => exact ⟨k + 1, by omega, by go_num, hgr.drewN _⟩
        case measure => simp [intOf]; omega
      · have e3 : (k : Int) % 8 = 1 := e2
        have hxd : wr.cell? ⟨gx, k, none⟩ = some (.int .u8 (v / 256 % 256)) := by rw [hxc, show (256 : Int) ^ 1 = 256 by decide]
        clear e2 hxc
        go_quiet (fail)
        go_wp2_with fail
        go_roundw
        case rel => exact ⟨k + 1, by omega, by go_num, hgr.drewN _⟩
        case measure => simp [intOf]; omega
      · have e3 : (k : Int) % 8 = 2 := e2
        have hxd : wr.cell? ⟨gx, k, none⟩ = some (.int .u8 (v / 65536 % 256)) := by rw [hxc, show (256 : Int) ^ 2 = 65536 by decide]
        clear e2 hxc
        go_quiet (fail)
        go_wp2_with fail
        go_roundw
        case rel => exact ⟨k + 1, by omega, by go_num, hgr.drewN _⟩
        case measure => simp [intOf]; omega
      · have e3 : (k : Int) % 8 = 3 := e2
        have hxd : wr.cell? ⟨gx, k, none⟩ = some (.int .u8 (v / 16777216 % 256)) := by rw [hxc, show (256 : Int) ^ 3 = 16777216 by decide]
        clear e2 hxc
        go_quiet (fail)
        go_wp2_with fail
        go_roundw
        case rel => exact ⟨k + 1, by omega, by go_num, hgr.drewN _⟩
        case measure => simp [intOf]; omega
      · have e3 : (k : Int) % 8 = 4 := e2
        have hxd : wr.cell? ⟨gx, k, none⟩ = some (.int .u8 (v / 4294967296 % 256)) := by rw [hxc, show (256 : Int) ^ 4 = 4294967296 by decide]
        clear e2 hxc
        go_quiet (fail)
        go_wp2_with fail
        go_roundw
        case rel => exact ⟨k + 1, by omega, by go_num, hgr.drewN _⟩
        case measure => simp [intOf]; omega
      · have e3 : (k : Int) % 8 = 5 := e2
        have hxd : wr.cell? ⟨gx, k, none⟩ = some (.int .u8 (v / 1099511627776 % 256)) := by rw [hxc, show (256 : Int) ^ 5 = 1099511627776 by decide]
        clear e2 hxc
        go_quiet (fail)
        go_wp2_with fail
        go_roundw
        case rel => exact ⟨k + 1, by omega, by go_num, hgr.drewN _⟩
        case measure => simp [intOf]; omega
      · have e3 : (k : Int) % 8 = 6 := e2
        have hxd : wr.cell? ⟨gx, k, none⟩ = some (.int .u8 (v / 281474976710656 % 256)) := by rw [hxc, show (256 : Int) ^ 6 = 281474976710656 by decide]
        clear e2 hxc
        go_quiet (fail)
        go_wp2_with fail
        go_roundw
        case rel => exact ⟨k + 1, by omega, by go_num, hgr.drewN _⟩
        case measure => simp [intOf]; omega
      · have e3 : (k : Int) % 8 = 7 := e2
        have hxd : wr.cell? ⟨gx, k, none⟩ = some (.int .u8 (v / 72057594037927936 % 256)) := by rw [hxc, show (256 : Int) ^ 7 = 72057594037927936 by decide]
        clear e2 hxc
        go_quiet (fail)
        go_wp2_with fail
        go_roundw
        case rel => exact ⟨k + 1, by omega, by go_num, hgr.drewN _⟩
        case measure => simp [intOf]; omega

end Go.Proofs.Ytkekljlkgnfofaa
