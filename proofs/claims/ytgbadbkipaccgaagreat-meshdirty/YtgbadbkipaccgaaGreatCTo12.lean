/- table.To: how far each local is from an open one. No condition. -/
import Derived.Test.YtgbadbkipaccgaaGreatCGoals12
import Derived.Test.YtgbadbkipaccgaaGreatBX2
namespace Go.Proofs.YtgbadbkipaccgaaGreat
open Go.RowKit
set_option maxRecDepth 20000

/-- one number, of the call's own -/
theorem int_one (w : World) (x : Int) : SlI (w.alloc (.cells #[.int .i64 x] 3)) (some ⟨w.heap.size, 0, none⟩) 1 (fun _ => x) :=
  .inr ⟨w.heap.size, 0, rfl, by rw [World.size_alloc]; exact Nat.lt_succ_self _, fun i hi => by
    obtain rfl : i = 0 := by omega
    exact cell_of_row _ _ 0 _ _ _ (Go.Deep.blk_alloc_new _ _)⟩
/-- goals at open locals may be -/
theorem may_goals {W H : Int} {n : Nat} {f : Nat → Int} {z : Nat → Int} {m : Nat} (hb : ∀ i, i < n → 0 ≤ f i ∧ f i ≤ 255) :
    mayS W H n f (goalsL z m) = true ↔ mayTB W H n f = true ∧ ∀ i, i < m → 0 ≤ z i ∧ z i < (n : Int) ∧ f (z i).toNat ≠ 255 := by
  have hel : ∀ i, i < m → el (goalsL z m) i = (z i, 4, 0) := fun i hi => el_of (by simp [goalsL, hi])
  constructor
  · intro h
    unfold mayS at h
    rw [Bool.and_eq_true, decide_eq_true_iff, goalsL_len] at h
    refine ⟨h.1, fun i hi => ?_⟩
    have k := (okS_iff h.1 hb).1 (h.2 i hi)
    rw [hel i hi] at k
    exact ⟨k.1.1, k.1.2, k.2.1⟩
  · rintro ⟨h, k⟩
    refine mayS_yes (goalsL_len z m) h fun i hi => (okS_iff h hb).2 ?_
    rw [hel i hi]
    obtain ⟨a, b, c⟩ := k i hi
    exact ⟨⟨a, b⟩, c, ⟨by simp, by simp⟩, ⟨by simp, by simp⟩, .inl rfl⟩
theorem may_goal {W H : Int} {n : Nat} {f : Nat → Int} {l : Int} (hb : ∀ i, i < n → 0 ≤ f i ∧ f i ≤ 255) :
    mayS W H n f (goalL l) = true ↔ mayTB W H n f = true ∧ 0 ≤ l ∧ l < (n : Int) ∧ f l.toNat ≠ 255 := by
  rw [show goalL l = goalsL (fun _ => l) 1 from rfl, may_goals hb]
  constructor
  · rintro ⟨a, b⟩
    exact ⟨a, b 0 (by omega)⟩
  · rintro ⟨a, b⟩
    exact ⟨a, fun _ _ => b⟩

/-- goals at one local -/
theorem goal_any (w1 : World) (l : Int) : Calls Tryz.prog 85 #[.slice (some ⟨w1.heap.size, 0, none⟩) 1 1] (w1.alloc (.cells #[.int .i64 l] 3)).drew fun e w' => (∃ g, e = .returned (.slice (some ⟨g, 0, none⟩) 1 1) ∧ SlS w' (some ⟨g, 0, none⟩) 1 1 (goalL l)) ∧ Gr w1 w' := by
  have hga : Gr w1 (w1.alloc (.cells #[.int .i64 l] 3)) := (Gr.refl w1).alloc _
  have hI := int_one w1 l
  generalize (w1.alloc (.cells #[.int .i64 l] 3)) = u at *
  have hd : Gr u u.drew := (Gr.refl u).drew
  refine (goals_any _ 1 1 (fun _ => l) u.drew (hI.gr hd) (by omega)).mono ?_
  rintro e w2 ⟨⟨rfl, hs2⟩, hg2⟩
  exact ⟨⟨_, rfl, hs2⟩, (hga.trans hd).trans hg2⟩

set_option maxHeartbeats 1000000 in
theorem to_no {W H : Int} {al : Option Addr} {n cap : Nat} {f : Nat → Int} {l : Int} {w : World} (h : Sl w al n f) (hmay : mayS W H n f (goalL l) = false) :
    Calls Tryz.prog 86 #[.agg #[.int .i64 W, .int .i64 H, .slice al n cap], .int .i64 l] w fun e w' => e = .returned (.tuple #[.slice none 0 0, .int .i64 1]) ∧ Gr w w' := by
  obtain ⟨c1, c2, c3⟩ := tri_at w W H (.slice al n cap)
  have hg1 : Gr w (w.alloc (.cells #[.int .i64 W, .int .i64 H, .slice al n cap] 83)) := (Gr.refl w).alloc _
  go_enter Tryz.func86, Tryz.ntmps86
  go_wp2_with fail
  generalize (w.alloc (.cells #[.int .i64 W, .int .i64 H, .slice al n cap] 83)) = w1 at *
  generalize hB0 : w.heap.size = B0 at *
  have HGO := hide (goal_any w1 l)
  have HD := hide (And.intro (cell_gr c1 (Gr.refl w1).drew) (And.intro (cell_gr c2 (Gr.refl w1).drew) (cell_gr c3 (Gr.refl w1).drew)))
  have HB := hide (And.intro (cell_gr c1 (((Gr.refl w1).alloc (.cells #[.int .i64 l] 3)).drew)) (And.intro (cell_gr c2 (((Gr.refl w1).alloc (.cells #[.int .i64 l] 3)).drew)) (cell_gr c3 (((Gr.refl w1).alloc (.cells #[.int .i64 l] 3)).drew))))
  replace h := h.gr hg1
  go_region_held3 (fun u => u.cell? ⟨B0, 0, none⟩ = some (.int .i64 W) ∧ u.cell? ⟨B0, 1, none⟩ = some (.int .i64 H) ∧ u.cell? ⟨B0, 2, none⟩ = some (.slice al n cap)) (first | with_reducible exact HD.out | with_reducible exact HB.out | exact ⟨cell_gr c1 hg9, cell_gr c2 hg9, cell_gr c3 hg9⟩) (first
    | (go_at_call 85; refine HGO.out.mono ?_; rintro e w2 ⟨⟨g2, rfl, hs2⟩, hg9⟩)
    | (go_at_call 95; refine (spread_no (h.gr hg9) hs2 hmay).mono ?_; rintro e w3 ⟨rfl, hg3⟩; replace hg9 : Gr w1 w3 := hg9.trans hg3))
  go_wp2_with fail
  go_ret2
  exact ⟨rfl, hg1.trans hg9⟩

set_option maxHeartbeats 1000000 in
theorem to_yes {W H : Int} {al : Option Addr} {n cap : Nat} {f : Nat → Int} {v : Nat} {w : World} (h : Sl w al n f) (htb : mayTB W H n f = true) (hv : v < n) (ho : f v ≠ 255) :
    Calls Tryz.prog 86 #[.agg #[.int .i64 W, .int .i64 H, .slice al n cap], .int .i64 (v : Int)] w fun e w' => (∃ g cf F, e = .returned (.tuple #[.slice (some ⟨g, 0, none⟩) n cf, .int .i64 0]) ∧ w.heap.size ≤ g ∧ FarS w' g cf n F ∧ Col (nearF W H n f) f n v F) ∧ Gr w w' := by
  have hmay : mayS W H n f (goalL (v : Int)) = true := (may_goal h.byte).2 ⟨htb, by omega, by omega, by rw [Int.toNat_natCast]; exact ho⟩
  have hsd : Sds f n 0 (goalL (v : Int)) := sds_goal hv ho
  obtain ⟨c1, c2, c3⟩ := tri_at w W H (.slice al n cap)
  have hg1 : Gr w (w.alloc (.cells #[.int .i64 W, .int .i64 H, .slice al n cap] 83)) := (Gr.refl w).alloc _
  go_enter Tryz.func86, Tryz.ntmps86
  go_wp2_with fail
  generalize (w.alloc (.cells #[.int .i64 W, .int .i64 H, .slice al n cap] 83)) = w1 at *
  generalize hB0 : w.heap.size = B0 at *
  have HGO := hide (goal_any w1 (v : Int))
  have HD := hide (And.intro (cell_gr c1 (Gr.refl w1).drew) (And.intro (cell_gr c2 (Gr.refl w1).drew) (cell_gr c3 (Gr.refl w1).drew)))
  have HB := hide (And.intro (cell_gr c1 (((Gr.refl w1).alloc (.cells #[.int .i64 (v : Int)] 3)).drew)) (And.intro (cell_gr c2 (((Gr.refl w1).alloc (.cells #[.int .i64 (v : Int)] 3)).drew)) (cell_gr c3 (((Gr.refl w1).alloc (.cells #[.int .i64 (v : Int)] 3)).drew))))
  replace h := h.gr hg1
  have hw1 := hg1.size
  go_region_held3 (fun u => u.cell? ⟨B0, 0, none⟩ = some (.int .i64 W) ∧ u.cell? ⟨B0, 1, none⟩ = some (.int .i64 H) ∧ u.cell? ⟨B0, 2, none⟩ = some (.slice al n cap)) (first | with_reducible exact HD.out | with_reducible exact HB.out | exact ⟨cell_gr c1 hg9, cell_gr c2 hg9, cell_gr c3 hg9⟩) (first
    | (go_at_call 85; refine HGO.out.mono ?_; rintro e w2 ⟨⟨g2, rfl, hs2⟩, hg9⟩)
    | (go_at_call 95; refine (spread_yes (h.gr hg9) hs2 (.inr ⟨_, _, rfl⟩) hmay hsd (by omega) (by omega) (by omega)).mono ?_; rintro e w3 ⟨⟨g3, cf, F, rfl, hge, hfar, hsp, hbd⟩, hg3⟩; have hs9 := hg9.size; replace hg9 : Gr w1 w3 := hg9.trans hg3))
  have HC : Hid (Col (nearF W H n f) f n v F) := hide ⟨hsp, fun c hc k => by have := hbd c hc k; omega⟩
  clear hsp hbd hmay hsd
  go_wp2_with fail
  go_ret2
  exact ⟨⟨g3, cf, F, rfl, by omega, hfar, HC.out⟩, hg1.trans hg9⟩
end Go.Proofs.YtgbadbkipaccgaaGreat
