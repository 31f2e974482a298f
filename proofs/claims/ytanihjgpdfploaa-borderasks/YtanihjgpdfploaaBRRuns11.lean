/- What the document's Runs makes: a row of its own, the same list; nothing that was there is written. -/
import Derived.Test.YtanihjgpdfploaaBRNodes11
namespace Go.Proofs.Ytanihjgpdfploaa
open Go.RowKit
set_option maxRecDepth 20000

/-- open places below T alone -/
def capB (T : Nat) (o : Nat → Bool) (k : Nat) : Bool := decide (k < T) && o k
theorem cap_in {T k : Nat} {o : Nat → Bool} (h : k < T) : capB T o k = o k := by simp [capB, h]
theorem cap_out (T : Nat) (o : Nat → Bool) : capB T o T = false := by simp [capB]
theorem cur_congr {o o' : Nat → Bool} : ∀ k, (∀ i, i < k → o i = o' i) → curK o k = curK o' k ∧ endK o k = endK o' k
  | 0, _ => ⟨rfl, rfl⟩
  | k + 1, h => by
    obtain ⟨a, b⟩ := cur_congr k fun i hi => h i (by omega)
    have e := h k (by omega)
    simp only [curK, endK, a, b, e, and_self]
theorem cap_end (T : Nat) (o : Nat → Bool) : endK (capB T o) (T + 1) = runsK o T := by
  rw [end_no (cap_out T o)]
  obtain ⟨a, b⟩ := cur_congr (o := capB T o) (o' := o) T fun i hi => cap_in hi
  unfold runsK
  rw [a, b]

set_option maxHeartbeats 4000000 in
theorem rruns_no (W H : Int) (a : Option Addr) (N cap : Nat) (f : Nat → Int) (s side : Int) (w : World) (hs : isSectorB W H s = false ∨ side < 0 ∨ 3 < side) :
    Calls Try.prog 22 #[.agg #[.int .i64 W, .int .i64 H, .slice a N cap], .int .i64 s, .int .i64 side] w fun e w' => (∃ v, e = .returned v ∧ w'.ownsRow w.heap.size 53 2 v (runsL W H N f s side).length (flatP (runsL W H N f s side))) ∧ Gr w w' := by
  rw [runsL_no hs]
  cases hq : isSectorB W H s
  · clear hs
    go_enter Try.func22, Try.ntmps22
    go_wp2_with (go_at_call 40; refine (rsize_no _ _ _ _ hq).mono ?_; rintro e w1 ⟨rfl, hd1⟩)
    go_ret
    exact ⟨⟨_, rfl, pairs_nil _ _ _⟩, ((Gr.refl w).alloc _).trans hd1.gr⟩
  · have hr : side < 0 ∨ 3 < side := by
      rcases hs with h | h
      · rw [hq] at h; cases h
      · exact h
    clear hs
    have sb := size_bd hq
    have HS := hide (fun u => rsize_yes W H s u hq)
    generalize twF W s = tw at *
    generalize thF W H s = th at *
    have tw0 : ¬ tw = 0 := by omega
    go_enter Try.func22, Try.ntmps22
    go_wp2_with (first | (go_at_call 40; refine (HS.out _).mono ?_; rintro e w1 ⟨rfl, hd1⟩) | (go_at_call 34; refine (in_no _ _ _ _ (by omega)).mono ?_; rintro e w2 ⟨rfl, hd2⟩))
    go_ret
    exact ⟨⟨_, rfl, pairs_nil _ _ _⟩, ((Gr.refl w).alloc _).trans (hd1.gr.trans hd2.gr)⟩

set_option maxHeartbeats 8000000 in
theorem rruns_0 (W H : Int) (a : Option Addr) (N cap : Nat) (f : Nat → Int) (s : Nat) (w : World) (h : Sl w a N f) (hs : isSectorB W H s = true) :
    Calls Try.prog 22 #[.agg #[.int .i64 W, .int .i64 H, .slice a N cap], .int .i64 s, .int .i64 0] w fun e w' => (∃ v, e = .returned v ∧ w'.ownsRow w.heap.size 53 2 v (runsL W H N f s (0 : Nat)).length (flatP (runsL W H N f s (0 : Nat)))) ∧ Gr w w' := by
  obtain ⟨i0, hi, hz0, hz1, hz2⟩ := info_parts info_run
  rw [runsL_at hs (by omega), ← cap_end]
  obtain ⟨q1, q2, q3⟩ := loc_ok (side := 0) hs (by omega)
  obtain ⟨u1, u2, u3, u4, -, -⟩ := size_bd hs
  have HP : Hid (∀ k, plcB W H N f s 0 k = (opB N f (gcF W s (locF W H s 0 k)) && opB N f (overF W H (gcF W s (locF W H s 0 k)) 0))) := hide fun _ => rfl
  have HX : ∀ k : Nat, k < longF W H s 0 → ((locF W H s 0 k : Nat) : Int) = (k : Int) := fun k hk => by
    rw [(q3 k hk).2.1]
    simp [fstF, aptF]
  have HQ := hide (fun (k : Nat) (hk : k < longF W H s 0) (u : World) => by
    have t := tnF_eq hs
    have b := (q3 k hk).1
    have r := rglobal_yes W H s (locF W H s 0 k) u hs (by omega) (by omega)
    rw [← (gcF_eq hs b).1, HX k hk] at r
    exact r)
  have HSz := hide (fun u => rsize_yes W H s u hs)
  have HT : Hid (twF W s = (longF W H s 0 : Nat)) := hide (by simpa [lngF] using q1)
  clear q1 q3 HX hs
  generalize plcB W H N f s 0 = o at *
  generalize longF W H s 0 = T at *
  generalize twF W s = tw at *
  generalize thF W H s = th at *
  have tw0 : ¬ tw = 0 := by omega
  have m1 := mul_bd (w := th - 1) (h := tw) (W := 16) (H := 16) (by omega) (by omega) (by omega) (by omega)
  have hwU := (Gr.refl w).alloc (.cells #[.int .i64 W, .int .i64 H, .slice a N cap] 24)
  have HS := hide (h.gr hwU)
  have HB := hide (tri_alloc w (.int .i64 W) (.int .i64 H) (.slice a N cap) 24)
  have HWU := hide hwU
  clear h hwU
  go_enter Try.func22, Try.ntmps22
  go_wp2_with (first | (go_at_call 40; refine (HSz.out _).mono ?_; rintro e w1 ⟨rfl, hd1⟩) | (go_at_call 34; refine (in_yes _ _ _ _ (by omega) (by omega)).mono ?_; rintro e w2 ⟨rfl, hd2⟩))
  have HR0 := hide (HWU.out.trans (hd1.gr.trans hd2.gr))
  have HB2 := hide (row_gr HB.out (hd1.gr.trans hd2.gr))
  have HS2 := hide (HS.out.gr (hd1.gr.trans hd2.gr))
  clear HB HS HWU
  have eb : (tw == 0) = false := by simp [tw0]
  rw [eb]
  clear eb tw0
  go_loopw [7, 11, 12] (fun v n i u => ∃ k : Nat, k ≤ T + 1 ∧ i = .int .i64 k ∧ n = .int .i64 (curK (capB T o) k : Nat) ∧ u.ownsRow w2.heap.size 53 2 v (endK (capB T o) k).length (flatP (endK (capB T o) k)) ∧ Gr w2 u) (fun _ _ i _ => T + 1 - (intOf i).toNat)
  case atStart => exact ⟨0, Nat.zero_le _, rfl, rfl, pairs_nil _ _ _, Gr.refl _⟩
  case round =>
    obtain ⟨k, hk, rfl, rfl, hown, hgr⟩ := hrel
    by_cases hle : k ≤ T
    · have hkI : (k : Int) ≤ tw := by have := HT.out; omega
      have HO := hide hown
      have HR := hide hgr
      obtain ⟨c1, c2, c3, -, -, -⟩ := row_cells (row_gr HB2.out hgr)
      have HSr := hide (HS2.out.gr hgr)
      clear hown hgr
      by_cases hin : k < T
      · have hkL : (k : Int) < tw := by have := HT.out; omega
        have m2 := mul_bd (w := (k : Int)) (h := tw) (W := 16) (H := 16) (by omega) (by omega) (by omega) (by omega)
        obtain ⟨g, hg⟩ : ∃ g, gcF W s (locF W H s 0 k) = g := ⟨_, rfl⟩
        have HC := hide (HQ.out k hin)
        have HPk := hide (HP.out k)
        rw [hg] at HC HPk
        clear hg
        obtain ⟨t2, ht2⟩ : ∃ t2, overF W H g 0 = t2 := ⟨_, rfl⟩
        have HTO := hide ht2
        clear ht2
        cases ha : opB N f g
        · have ho : capB T o k = false := by rw [cap_in hin, HPk.out, ha]; rfl
          clear HPk
          go_wp2_with (go_at_call 41; refine (HC.out _).mono ?_; rintro e w3 ⟨rfl, hd3⟩; replace c1 := cell_gr c1 hd3.gr; replace c2 := cell_gr c2 hd3.gr; replace c3 := cell_gr c3 hd3.gr)
          refine wp_region_held_drew (S := (fun z => z.cell? ⟨w.heap.size, 0, none⟩ = some (.int .i64 W) ∧ z.cell? ⟨w.heap.size, 1, none⟩ = some (.int .i64 H) ∧ z.cell? ⟨w.heap.size, 2, none⟩ = some (.slice a N cap) ∧ Gr w3 z)) (by kernel_rfl) ⟨c1, c2, c3, (Gr.refl _).drew⟩ (fun hHeld => ?_)
          refine wpAnyH_take (i := 0) (oi := { dst := some 78, op := Op.load 24 (Operand.tmp 3), type := 24, pos := "ref.go:92", after := #[], guard := none }) (v := ?_) rfl (by kernel_rfl) (by kernel_rfl) (by kernel_rfl) (fun _ _ _ h => h) (Or.inl ⟨by rfl, ?_⟩) (by assumption) ?_
          rotate_left
          · intro w hSw
            try dsimp only at hSw
            go_simp
            try with_reducible rfl
          try simp only [Act.put, List.setIfInBounds_toArray, List.set_cons_zero, List.set_cons_succ]
          refine wpAnyH_take (i := 1) (oi := { dst := some 79, op := Op.move (Operand.tmp 15), type := 3, pos := "ref.go:92", after := #[], guard := none }) (v := ?_) rfl (by kernel_rfl) (by kernel_rfl) (by kernel_rfl) (fun _ _ _ h => h) (Or.inl ⟨by rfl, ?_⟩) (by assumption) ?_
          rotate_left
          · intro w hSw
            try dsimp only at hSw
            go_simp
            try with_reducible rfl
          try simp only [Act.put, List.setIfInBounds_toArray, List.set_cons_zero, List.set_cons_succ]
          refine wpAnyH_ready (rs := [2]) (by kernel_rfl) (by simp) ?_
          refine AllReadyH.cons (o := { dst := some 80, op := Op.call { callee := Callee.value (Operand.func 35), args := #[Operand.tmp 78, Operand.tmp 79], argTypes := #[24, 3] }, type := 4, pos := "ref.go:92", after := #[{ on := 0, ground := Ground.data }, { on := 1, ground := Ground.data }], guard := none }) rfl (fun K hK => ?_) AllReadyH.nil
          go_simp
          refine (ropen_any W H _ N cap f g _ (HSr.out.gr (hd3.gr.trans hHeld.2.2.2))).mono ?_
          rintro e w9 ⟨rfl, hg9⟩
          rw [ha]
          go_wp2_with fail
          have hS := hHeld
          refine Shut.out hK _ _ ?_ (fun hHeld => ?_)
          · exact ⟨cell_gr hS.1 hg9, cell_gr hS.2.1 hg9, cell_gr hS.2.2.1 hg9, hS.2.2.2.trans hg9⟩
          clear hK K
          try simp only [Act.put, List.setIfInBounds_toArray, List.set_cons_zero, List.set_cons_succ]
          refine wpAnyH_take (i := 3) (oi := { dst := some 81, op := Op.move (Operand.tmp 80), type := 4, pos := "ref.go:92", after := #[{ on := 2, ground := Ground.data }, { on := 2, ground := Ground.chain }], guard := none }) (v := ?_) rfl (by kernel_rfl) (by kernel_rfl) (by kernel_rfl) (fun _ _ _ h => h) (Or.inl ⟨by rfl, ?_⟩) (by assumption) ?_
          rotate_left
          · intro w hSw
            try dsimp only at hSw
            go_simp
            try with_reducible rfl
          try simp only [Act.put, List.setIfInBounds_toArray, List.set_cons_zero, List.set_cons_succ]
          refine wpAnyH_take (i := 4) (oi := { dst := some 82, op := Op.load 24 (Operand.tmp 3), type := 24, pos := "ref.go:92", after := #[{ on := 3, ground := Ground.guard }], guard := some (3, true) }) (v := undef) rfl (by kernel_rfl) (by kernel_rfl) (by kernel_rfl) (fun _ _ _ h => h) (Or.inr ⟨by rfl, rfl⟩) (by assumption) ?_
          try simp only [Act.put, List.setIfInBounds_toArray, List.set_cons_zero, List.set_cons_succ]
          refine wpAnyH_take (i := 5) (oi := { dst := some 83, op := Op.fieldAddr 24 (Operand.tmp 3) 0, type := 0, pos := "ref.go:92", after := #[{ on := 3, ground := Ground.guard }], guard := some (3, true) }) (v := undef) rfl (by kernel_rfl) (by kernel_rfl) (by kernel_rfl) (fun _ _ _ h => h) (Or.inr ⟨by rfl, rfl⟩) (by assumption) ?_
          try simp only [Act.put, List.setIfInBounds_toArray, List.set_cons_zero, List.set_cons_succ]
          refine wpAnyH_take (i := 6) (oi := { dst := some 84, op := Op.load 3 (Operand.tmp 83), type := 3, pos := "ref.go:92", after := #[{ on := 5, ground := Ground.data }, { on := 3, ground := Ground.guard }], guard := some (3, true) }) (v := undef) rfl (by kernel_rfl) (by kernel_rfl) (by kernel_rfl) (fun _ _ _ h => h) (Or.inr ⟨by rfl, rfl⟩) (by assumption) ?_
          try simp only [Act.put, List.setIfInBounds_toArray, List.set_cons_zero, List.set_cons_succ]
          refine wpAnyH_take (i := 7) (oi := { dst := some 85, op := Op.fieldAddr 24 (Operand.tmp 3) 1, type := 0, pos := "ref.go:92", after := #[{ on := 3, ground := Ground.guard }], guard := some (3, true) }) (v := undef) rfl (by kernel_rfl) (by kernel_rfl) (by kernel_rfl) (fun _ _ _ h => h) (Or.inr ⟨by rfl, rfl⟩) (by assumption) ?_
          try simp only [Act.put, List.setIfInBounds_toArray, List.set_cons_zero, List.set_cons_succ]
          refine wpAnyH_take (i := 8) (oi := { dst := some 86, op := Op.load 3 (Operand.tmp 85), type := 3, pos := "ref.go:92", after := #[{ on := 7, ground := Ground.data }, { on := 3, ground := Ground.guard }], guard := some (3, true) }) (v := undef) rfl (by kernel_rfl) (by kernel_rfl) (by kernel_rfl) (fun _ _ _ h => h) (Or.inr ⟨by rfl, rfl⟩) (by assumption) ?_
          try simp only [Act.put, List.setIfInBounds_toArray, List.set_cons_zero, List.set_cons_succ]
          refine wpAnyH_take (i := 9) (oi := { dst := some 87, op := Op.move (Operand.tmp 15), type := 3, pos := "ref.go:92", after := #[{ on := 3, ground := Ground.guard }], guard := some (3, true) }) (v := undef) rfl (by kernel_rfl) (by kernel_rfl) (by kernel_rfl) (fun _ _ _ h => h) (Or.inr ⟨by rfl, rfl⟩) (by assumption) ?_
          try simp only [Act.put, List.setIfInBounds_toArray, List.set_cons_zero, List.set_cons_succ]
          refine wpAnyH_take (i := 10) (oi := { dst := some 88, op := Op.move (Operand.tmp 2), type := 3, pos := "ref.go:92", after := #[{ on := 3, ground := Ground.guard }], guard := some (3, true) }) (v := undef) rfl (by kernel_rfl) (by kernel_rfl) (by kernel_rfl) (fun _ _ _ h => h) (Or.inr ⟨by rfl, rfl⟩) (by assumption) ?_
          try simp only [Act.put, List.setIfInBounds_toArray, List.set_cons_zero, List.set_cons_succ]
          refine wpAnyH_take (i := 11) (oi := { dst := some 89, op := Op.call { callee := Callee.value (Operand.func 36), args := #[Operand.tmp 84, Operand.tmp 86, Operand.tmp 87, Operand.tmp 88], argTypes := #[3, 3, 3, 3] }, type := 3, pos := "ref.go:92", after := #[{ on := 6, ground := Ground.data }, { on := 8, ground := Ground.data }, { on := 9, ground := Ground.data }, { on := 10, ground := Ground.data }, { on := 3, ground := Ground.chain }, { on := 3, ground := Ground.guard }], guard := some (3, true) }) (v := undef) rfl (by kernel_rfl) (by kernel_rfl) (by kernel_rfl) (fun _ _ _ h => h) (Or.inr ⟨by rfl, rfl⟩) (by assumption) ?_
          try simp only [Act.put, List.setIfInBounds_toArray, List.set_cons_zero, List.set_cons_succ]
          refine wpAnyH_take (i := 12) (oi := { dst := some 90, op := Op.call { callee := Callee.value (Operand.func 35), args := #[Operand.tmp 82, Operand.tmp 89], argTypes := #[24, 3] }, type := 4, pos := "ref.go:92", after := #[{ on := 4, ground := Ground.data }, { on := 11, ground := Ground.data }, { on := 11, ground := Ground.chain }, { on := 3, ground := Ground.guard }], guard := some (3, true) }) (v := undef) rfl (by kernel_rfl) (by kernel_rfl) (by kernel_rfl) (fun _ _ _ h => h) (Or.inr ⟨by rfl, rfl⟩) (by assumption) ?_
          try simp only [Act.put, List.setIfInBounds_toArray, List.set_cons_zero, List.set_cons_succ]
          refine wpAnyH_take (i := 13) (oi := { dst := some 91, op := Op.pick (Operand.tmp 81) (Operand.tmp 90) (Operand.const (Value.bool false)), type := 4, pos := "ref.go:92", after := #[{ on := 3, ground := Ground.data }, { on := 12, ground := Ground.data }], guard := none }) (v := ?_) rfl (by kernel_rfl) (by kernel_rfl) (by kernel_rfl) (fun _ _ _ h => h) (Or.inl ⟨by rfl, ?_⟩) (by assumption) ?_
          rotate_left
          · intro w hSw
            try dsimp only at hSw
            go_simp
            try with_reducible rfl
          try simp only [Act.put, List.setIfInBounds_toArray, List.set_cons_zero, List.set_cons_succ]
          refine wpAnyH_take (i := 14) (oi := { dst := some 13, op := Op.assign (Operand.tmp 91), type := 4, pos := "ref.go:92", after := #[{ on := 13, ground := Ground.data }, { on := 12, ground := Ground.chain }, { on := 0, ground := Ground.phase }, { on := 1, ground := Ground.phase }, { on := 2, ground := Ground.phase }, { on := 3, ground := Ground.phase }, { on := 4, ground := Ground.phase }, { on := 5, ground := Ground.phase }, { on := 6, ground := Ground.phase }, { on := 7, ground := Ground.phase }, { on := 8, ground := Ground.phase }, { on := 9, ground := Ground.phase }, { on := 10, ground := Ground.phase }, { on := 11, ground := Ground.phase }, { on := 12, ground := Ground.phase }, { on := 13, ground := Ground.phase }], guard := none }) (v := ?_) rfl (by kernel_rfl) (by kernel_rfl) (by kernel_rfl) (fun _ _ _ h => h) (Or.inl ⟨by rfl, ?_⟩) (by assumption) ?_
          rotate_left
          · intro w hSw
            try dsimp only at hSw
            go_simp
            try with_reducible rfl
          try simp only [Act.put, List.setIfInBounds_toArray, List.set_cons_zero, List.set_cons_succ]
          refine wpAnyH_done (by kernel_rfl) ?_ _
          have hS9 := hd3.gr.trans hHeld.2.2.2
          have HO2 := hide (own_grP HO.out hS9)
          have HR2 := hide (HR.out.trans hS9)
          obtain ⟨m, hm⟩ : ∃ m, curK (capB T o) k = m := ⟨_, rfl⟩
          have H1 := hide (cur_no ho)
          have ck := cur_le (capB T o) k
          have ce := end_len (capB T o) k
          rw [hm] at ck ce ⊢
          by_cases hm0 : m = 0
          · have H2 := hide ((end_no ho).trans (runs_new (hm.trans hm0)))
            subst hm0
            clear ho hm ce
            rw [show ((0 : Nat) : Int) = 0 from rfl]
            go_wp2_with fail
            go_roundw
            case rel => exact ⟨k + 1, by omega, by go_num, by rw [H1.out]; rfl, by rw [H2.out]; exact HO2.out, HR2.out⟩
            case measure => simp [intOf]; omega
          · have hr := runs_go (o := capB T o) (k := k) (by omega)
            rw [hm] at hr
            rw [if_neg hm0] at ce
            have H2 := hide ((end_no ho).trans hr)
            have hmI : 0 < (m : Int) := by omega
            clear ho hm hr
            go_wp2_with (at_builtin; refine wpList_append_own _ rfl _ _ 40 rfl w2.heap.size 53 i0 (.agg #[.int .i64 0, .int .i64 0]) 2 16 Try.underlying40 hi hz0 hz1 hz2 rfl (by decide) _ _ _ rfl (own_grP HO2.out ((Gr.refl _).alloc _)) ⟨_, 0, none⟩ 1 1 [.int .i64 ((k : Int) - m), .int .i64 m] rfl rfl (alloc_two _ _ _ _) (by simp [Value.oneCell']) (by unfold maxLen; omega) (by omega) (by have := HR2.out.size; simp only [World.size_alloc]; omega) ?_; intro v' w6 hown' hgrow hnil)
            go_roundw
            case rel => exact ⟨k + 1, by omega, by go_num, by rw [H1.out]; rfl, by rw [H2.out, List.length_append, flatP_app]; exact hown', Gr.grown (HR2.out.alloc _) hgrow (fun q e => (HO2.out.lt q e).1)⟩
            case measure => simp [intOf]; omega
        · cases hb : opB N f t2
          · have ho : capB T o k = false := by rw [cap_in hin, HPk.out, HTO.out, ha, hb]; rfl
            clear HPk
            go_wp2_with (go_at_call 41; refine (HC.out _).mono ?_; rintro e w3 ⟨rfl, hd3⟩; replace c1 := cell_gr c1 hd3.gr; replace c2 := cell_gr c2 hd3.gr; replace c3 := cell_gr c3 hd3.gr)
            go_region_held3 (fun z => z.cell? ⟨w.heap.size, 0, none⟩ = some (.int .i64 W) ∧ z.cell? ⟨w.heap.size, 1, none⟩ = some (.int .i64 H) ∧ z.cell? ⟨w.heap.size, 2, none⟩ = some (.slice a N cap) ∧ Gr w3 z) (first | exact ⟨c1, c2, c3, (Gr.refl _).drew⟩ | exact ⟨cell_gr hS.1 hg9, cell_gr hS.2.1 hg9, cell_gr hS.2.2.1 hg9, hS.2.2.2.trans hg9⟩) (first | (go_at_call_of 35 t2; have hS := ‹_ ∧ _ ∧ _ ∧ Gr w3 _›; refine (ropen_any W H _ N cap f t2 _ (HSr.out.gr (hd3.gr.trans hS.2.2.2))).mono ?_; rintro e w9 ⟨rfl, hg9⟩; rw [hb]) | (go_at_call 35; have hS := ‹_ ∧ _ ∧ _ ∧ Gr w3 _›; refine (ropen_any W H _ N cap f g _ (HSr.out.gr (hd3.gr.trans hS.2.2.2))).mono ?_; rintro e w9 ⟨rfl, hg9⟩; rw [ha]) | (go_at_call 36; have hS := ‹_ ∧ _ ∧ _ ∧ Gr w3 _›; refine (rover_any _ _ _ 0 _).mono ?_; rintro e w9 ⟨rfl, hd9⟩; rw [HTO.out]; have hg9 := hd9.gr))
            have hS9 := hd3.gr.trans (‹_ ∧ _ ∧ _ ∧ Gr w3 _›).2.2.2
            have HO2 := hide (own_grP HO.out hS9)
            have HR2 := hide (HR.out.trans hS9)
            obtain ⟨m, hm⟩ : ∃ m, curK (capB T o) k = m := ⟨_, rfl⟩
            have H1 := hide (cur_no ho)
            have ck := cur_le (capB T o) k
            have ce := end_len (capB T o) k
            rw [hm] at ck ce ⊢
            by_cases hm0 : m = 0
            · have H2 := hide ((end_no ho).trans (runs_new (hm.trans hm0)))
              subst hm0
              clear ho hm ce
              rw [show ((0 : Nat) : Int) = 0 from rfl]
              go_wp2_with fail
              go_roundw
              case rel => exact ⟨k + 1, by omega, by go_num, by rw [H1.out]; rfl, by rw [H2.out]; exact HO2.out, HR2.out⟩
              case measure => simp [intOf]; omega
            · have hr := runs_go (o := capB T o) (k := k) (by omega)
              rw [hm] at hr
              rw [if_neg hm0] at ce
              have H2 := hide ((end_no ho).trans hr)
              have hmI : 0 < (m : Int) := by omega
              clear ho hm hr
              go_wp2_with (at_builtin; refine wpList_append_own _ rfl _ _ 40 rfl w2.heap.size 53 i0 (.agg #[.int .i64 0, .int .i64 0]) 2 16 Try.underlying40 hi hz0 hz1 hz2 rfl (by decide) _ _ _ rfl (own_grP HO2.out ((Gr.refl _).alloc _)) ⟨_, 0, none⟩ 1 1 [.int .i64 ((k : Int) - m), .int .i64 m] rfl rfl (alloc_two _ _ _ _) (by simp [Value.oneCell']) (by unfold maxLen; omega) (by omega) (by have := HR2.out.size; simp only [World.size_alloc]; omega) ?_; intro v' w6 hown' hgrow hnil)
              go_roundw
              case rel => exact ⟨k + 1, by omega, by go_num, by rw [H1.out]; rfl, by rw [H2.out, List.length_append, flatP_app]; exact hown', Gr.grown (HR2.out.alloc _) hgrow (fun q e => (HO2.out.lt q e).1)⟩
              case measure => simp [intOf]; omega
          · have ho : capB T o k = true := by rw [cap_in hin, HPk.out, HTO.out, ha, hb]; rfl
            clear HPk
            go_wp2_with (go_at_call 41; refine (HC.out _).mono ?_; rintro e w3 ⟨rfl, hd3⟩; replace c1 := cell_gr c1 hd3.gr; replace c2 := cell_gr c2 hd3.gr; replace c3 := cell_gr c3 hd3.gr)
            go_region_held3 (fun z => z.cell? ⟨w.heap.size, 0, none⟩ = some (.int .i64 W) ∧ z.cell? ⟨w.heap.size, 1, none⟩ = some (.int .i64 H) ∧ z.cell? ⟨w.heap.size, 2, none⟩ = some (.slice a N cap) ∧ Gr w3 z) (first | exact ⟨c1, c2, c3, (Gr.refl _).drew⟩ | exact ⟨cell_gr hS.1 hg9, cell_gr hS.2.1 hg9, cell_gr hS.2.2.1 hg9, hS.2.2.2.trans hg9⟩) (first | (go_at_call_of 35 t2; have hS := ‹_ ∧ _ ∧ _ ∧ Gr w3 _›; refine (ropen_any W H _ N cap f t2 _ (HSr.out.gr (hd3.gr.trans hS.2.2.2))).mono ?_; rintro e w9 ⟨rfl, hg9⟩; rw [hb]) | (go_at_call 35; have hS := ‹_ ∧ _ ∧ _ ∧ Gr w3 _›; refine (ropen_any W H _ N cap f g _ (HSr.out.gr (hd3.gr.trans hS.2.2.2))).mono ?_; rintro e w9 ⟨rfl, hg9⟩; rw [ha]) | (go_at_call 36; have hS := ‹_ ∧ _ ∧ _ ∧ Gr w3 _›; refine (rover_any _ _ _ 0 _).mono ?_; rintro e w9 ⟨rfl, hd9⟩; rw [HTO.out]; have hg9 := hd9.gr))
            have hS9 := hd3.gr.trans (‹_ ∧ _ ∧ _ ∧ Gr w3 _›).2.2.2
            have HO2 := hide (own_grP HO.out hS9)
            have HR2 := hide (HR.out.trans hS9)
            have H1 := hide (cur_yes ho)
            have H2 := hide (end_yes ho)
            have ck := cur_le (capB T o) k
            clear ho
            go_wp2_with fail
            go_roundw
            case rel => exact ⟨k + 1, by omega, by go_num, by rw [H1.out]; rfl, by rw [H2.out]; exact HO2.out, HR2.out⟩
            case measure => simp [intOf]; omega
      · have hkT : k = T := by omega
        have hkL : ¬ (k : Int) < tw := by have := HT.out; omega
        have ho : capB T o k = false := by rw [hkT]; exact cap_out T o
        have HO2 := hide HO.out
        have HR2 := hide HR.out
        clear hkT
        obtain ⟨m, hm⟩ : ∃ m, curK (capB T o) k = m := ⟨_, rfl⟩
        have H1 := hide (cur_no ho)
        have ck := cur_le (capB T o) k
        have ce := end_len (capB T o) k
        rw [hm] at ck ce ⊢
        by_cases hm0 : m = 0
        · have H2 := hide ((end_no ho).trans (runs_new (hm.trans hm0)))
          subst hm0
          clear ho hm ce
          rw [show ((0 : Nat) : Int) = 0 from rfl]
          go_wp2_with fail
          go_roundw
          case rel => exact ⟨k + 1, by omega, by go_num, by rw [H1.out]; rfl, by rw [H2.out]; exact HO2.out, HR2.out⟩
          case measure => simp [intOf]; omega
        · have hr := runs_go (o := capB T o) (k := k) (by omega)
          rw [hm] at hr
          rw [if_neg hm0] at ce
          have H2 := hide ((end_no ho).trans hr)
          have hmI : 0 < (m : Int) := by omega
          clear ho hm hr
          go_wp2_with (at_builtin; refine wpList_append_own _ rfl _ _ 40 rfl w2.heap.size 53 i0 (.agg #[.int .i64 0, .int .i64 0]) 2 16 Try.underlying40 hi hz0 hz1 hz2 rfl (by decide) _ _ _ rfl (own_grP HO2.out ((Gr.refl _).alloc _)) ⟨_, 0, none⟩ 1 1 [.int .i64 ((k : Int) - m), .int .i64 m] rfl rfl (alloc_two _ _ _ _) (by simp [Value.oneCell']) (by unfold maxLen; omega) (by omega) (by have := HR2.out.size; simp only [World.size_alloc]; omega) ?_; intro v' w6 hown' hgrow hnil)
          go_roundw
          case rel => exact ⟨k + 1, by omega, by go_num, by rw [H1.out]; rfl, by rw [H2.out, List.length_append, flatP_app]; exact hown', Gr.grown (HR2.out.alloc _) hgrow (fun q e => (HO2.out.lt q e).1)⟩
          case measure => simp [intOf]; omega
    · have hkn : k = T + 1 := by omega
      have hkI : ¬ (k : Int) ≤ tw := by have := HT.out; omega
      subst hkn
      go_wp2
      go_ret
      exact ⟨⟨_, rfl, ownP_base hown HR0.out.size⟩, HR0.out.trans hgr⟩

set_option maxHeartbeats 8000000 in
theorem rruns_2 (W H : Int) (a : Option Addr) (N cap : Nat) (f : Nat → Int) (s : Nat) (w : World) (h : Sl w a N f) (hs : isSectorB W H s = true) :
    Calls Try.prog 22 #[.agg #[.int .i64 W, .int .i64 H, .slice a N cap], .int .i64 s, .int .i64 2] w fun e w' => (∃ v, e = .returned v ∧ w'.ownsRow w.heap.size 53 2 v (runsL W H N f s (2 : Nat)).length (flatP (runsL W H N f s (2 : Nat)))) ∧ Gr w w' := by
  obtain ⟨i0, hi, hz0, hz1, hz2⟩ := info_parts info_run
  rw [runsL_at hs (by omega), ← cap_end]
  obtain ⟨q1, q2, q3⟩ := loc_ok (side := 2) hs (by omega)
  obtain ⟨u1, u2, u3, u4, -, -⟩ := size_bd hs
  have HP : Hid (∀ k, plcB W H N f s 2 k = (opB N f (gcF W s (locF W H s 2 k)) && opB N f (overF W H (gcF W s (locF W H s 2 k)) 2))) := hide fun _ => rfl
  have HX : ∀ k : Nat, k < longF W H s 2 → ((locF W H s 2 k : Nat) : Int) = (thF W H s - 1) * twF W s + (k : Int) := fun k hk => by
    rw [(q3 k hk).2.1]
    simp [fstF, aptF]
  have HQ := hide (fun (k : Nat) (hk : k < longF W H s 2) (u : World) => by
    have t := tnF_eq hs
    have b := (q3 k hk).1
    have r := rglobal_yes W H s (locF W H s 2 k) u hs (by omega) (by omega)
    rw [← (gcF_eq hs b).1, HX k hk] at r
    exact r)
  have HSz := hide (fun u => rsize_yes W H s u hs)
  have HT : Hid (twF W s = (longF W H s 2 : Nat)) := hide (by simpa [lngF] using q1)
  clear q1 q3 HX hs
  generalize plcB W H N f s 2 = o at *
  generalize longF W H s 2 = T at *
  generalize twF W s = tw at *
  generalize thF W H s = th at *
  have tw0 : ¬ tw = 0 := by omega
  have m1 := mul_bd (w := th - 1) (h := tw) (W := 16) (H := 16) (by omega) (by omega) (by omega) (by omega)
  have hwU := (Gr.refl w).alloc (.cells #[.int .i64 W, .int .i64 H, .slice a N cap] 24)
  have HS := hide (h.gr hwU)
  have HB := hide (tri_alloc w (.int .i64 W) (.int .i64 H) (.slice a N cap) 24)
  have HWU := hide hwU
  clear h hwU
  go_enter Try.func22, Try.ntmps22
  go_wp2_with (first | (go_at_call 40; refine (HSz.out _).mono ?_; rintro e w1 ⟨rfl, hd1⟩) | (go_at_call 34; refine (in_yes _ _ _ _ (by omega) (by omega)).mono ?_; rintro e w2 ⟨rfl, hd2⟩))
  have HR0 := hide (HWU.out.trans (hd1.gr.trans hd2.gr))
  have HB2 := hide (row_gr HB.out (hd1.gr.trans hd2.gr))
  have HS2 := hide (HS.out.gr (hd1.gr.trans hd2.gr))
  clear HB HS HWU
  have eb : (tw == 0) = false := by simp [tw0]
  rw [eb]
  clear eb tw0
  go_loopw [7, 11, 12] (fun v n i u => ∃ k : Nat, k ≤ T + 1 ∧ i = .int .i64 k ∧ n = .int .i64 (curK (capB T o) k : Nat) ∧ u.ownsRow w2.heap.size 53 2 v (endK (capB T o) k).length (flatP (endK (capB T o) k)) ∧ Gr w2 u) (fun _ _ i _ => T + 1 - (intOf i).toNat)
  case atStart => exact ⟨0, Nat.zero_le _, rfl, rfl, pairs_nil _ _ _, Gr.refl _⟩
  case round =>
    obtain ⟨k, hk, rfl, rfl, hown, hgr⟩ := hrel
    by_cases hle : k ≤ T
    · have hkI : (k : Int) ≤ tw := by have := HT.out; omega
      have HO := hide hown
      have HR := hide hgr
      obtain ⟨c1, c2, c3, -, -, -⟩ := row_cells (row_gr HB2.out hgr)
      have HSr := hide (HS2.out.gr hgr)
      clear hown hgr
      by_cases hin : k < T
      · have hkL : (k : Int) < tw := by have := HT.out; omega
        have m2 := mul_bd (w := (k : Int)) (h := tw) (W := 16) (H := 16) (by omega) (by omega) (by omega) (by omega)
        obtain ⟨g, hg⟩ : ∃ g, gcF W s (locF W H s 2 k) = g := ⟨_, rfl⟩
        have HC := hide (HQ.out k hin)
        have HPk := hide (HP.out k)
        rw [hg] at HC HPk
        clear hg
        obtain ⟨t2, ht2⟩ : ∃ t2, overF W H g 2 = t2 := ⟨_, rfl⟩
        have HTO := hide ht2
        clear ht2
        cases ha : opB N f g
        · have ho : capB T o k = false := by rw [cap_in hin, HPk.out, ha]; rfl
          clear HPk
          go_wp2_with (go_at_call 41; refine (HC.out _).mono ?_; rintro e w3 ⟨rfl, hd3⟩; replace c1 := cell_gr c1 hd3.gr; replace c2 := cell_gr c2 hd3.gr; replace c3 := cell_gr c3 hd3.gr)
          refine wp_region_held_drew (S := (fun z => z.cell? ⟨w.heap.size, 0, none⟩ = some (.int .i64 W) ∧ z.cell? ⟨w.heap.size, 1, none⟩ = some (.int .i64 H) ∧ z.cell? ⟨w.heap.size, 2, none⟩ = some (.slice a N cap) ∧ Gr w3 z)) (by kernel_rfl) ⟨c1, c2, c3, (Gr.refl _).drew⟩ (fun hHeld => ?_)
          refine wpAnyH_take (i := 0) (oi := { dst := some 78, op := Op.load 24 (Operand.tmp 3), type := 24, pos := "ref.go:92", after := #[], guard := none }) (v := ?_) rfl (by kernel_rfl) (by kernel_rfl) (by kernel_rfl) (fun _ _ _ h => h) (Or.inl ⟨by rfl, ?_⟩) (by assumption) ?_
          rotate_left
          · intro w hSw
            try dsimp only at hSw
            go_simp
            try with_reducible rfl
          try simp only [Act.put, List.setIfInBounds_toArray, List.set_cons_zero, List.set_cons_succ]
          refine wpAnyH_take (i := 1) (oi := { dst := some 79, op := Op.move (Operand.tmp 15), type := 3, pos := "ref.go:92", after := #[], guard := none }) (v := ?_) rfl (by kernel_rfl) (by kernel_rfl) (by kernel_rfl) (fun _ _ _ h => h) (Or.inl ⟨by rfl, ?_⟩) (by assumption) ?_
          rotate_left
          · intro w hSw
            try dsimp only at hSw
            go_simp
            try with_reducible rfl
          try simp only [Act.put, List.setIfInBounds_toArray, List.set_cons_zero, List.set_cons_succ]
          refine wpAnyH_ready (rs := [2]) (by kernel_rfl) (by simp) ?_
          refine AllReadyH.cons (o := { dst := some 80, op := Op.call { callee := Callee.value (Operand.func 35), args := #[Operand.tmp 78, Operand.tmp 79], argTypes := #[24, 3] }, type := 4, pos := "ref.go:92", after := #[{ on := 0, ground := Ground.data }, { on := 1, ground := Ground.data }], guard := none }) rfl (fun K hK => ?_) AllReadyH.nil
          go_simp
          refine (ropen_any W H _ N cap f g _ (HSr.out.gr (hd3.gr.trans hHeld.2.2.2))).mono ?_
          rintro e w9 ⟨rfl, hg9⟩
          rw [ha]
          go_wp2_with fail
          have hS := hHeld
          refine Shut.out hK _ _ ?_ (fun hHeld => ?_)
          · exact ⟨cell_gr hS.1 hg9, cell_gr hS.2.1 hg9, cell_gr hS.2.2.1 hg9, hS.2.2.2.trans hg9⟩
          clear hK K
          try simp only [Act.put, List.setIfInBounds_toArray, List.set_cons_zero, List.set_cons_succ]
          refine wpAnyH_take (i := 3) (oi := { dst := some 81, op := Op.move (Operand.tmp 80), type := 4, pos := "ref.go:92", after := #[{ on := 2, ground := Ground.data }, { on := 2, ground := Ground.chain }], guard := none }) (v := ?_) rfl (by kernel_rfl) (by kernel_rfl) (by kernel_rfl) (fun _ _ _ h => h) (Or.inl ⟨by rfl, ?_⟩) (by assumption) ?_
          rotate_left
          · intro w hSw
            try dsimp only at hSw
            go_simp
            try with_reducible rfl
          try simp only [Act.put, List.setIfInBounds_toArray, List.set_cons_zero, List.set_cons_succ]
          refine wpAnyH_take (i := 4) (oi := { dst := some 82, op := Op.load 24 (Operand.tmp 3), type := 24, pos := "ref.go:92", after := #[{ on := 3, ground := Ground.guard }], guard := some (3, true) }) (v := undef) rfl (by kernel_rfl) (by kernel_rfl) (by kernel_rfl) (fun _ _ _ h => h) (Or.inr ⟨by rfl, rfl⟩) (by assumption) ?_
          try simp only [Act.put, List.setIfInBounds_toArray, List.set_cons_zero, List.set_cons_succ]
          refine wpAnyH_take (i := 5) (oi := { dst := some 83, op := Op.fieldAddr 24 (Operand.tmp 3) 0, type := 0, pos := "ref.go:92", after := #[{ on := 3, ground := Ground.guard }], guard := some (3, true) }) (v := undef) rfl (by kernel_rfl) (by kernel_rfl) (by kernel_rfl) (fun _ _ _ h => h) (Or.inr ⟨by rfl, rfl⟩) (by assumption) ?_
          try simp only [Act.put, List.setIfInBounds_toArray, List.set_cons_zero, List.set_cons_succ]
          refine wpAnyH_take (i := 6) (oi := { dst := some 84, op := Op.load 3 (Operand.tmp 83), type := 3, pos := "ref.go:92", after := #[{ on := 5, ground := Ground.data }, { on := 3, ground := Ground.guard }], guard := some (3, true) }) (v := undef) rfl (by kernel_rfl) (by kernel_rfl) (by kernel_rfl) (fun _ _ _ h => h) (Or.inr ⟨by rfl, rfl⟩) (by assumption) ?_
          try simp only [Act.put, List.setIfInBounds_toArray, List.set_cons_zero, List.set_cons_succ]
          refine wpAnyH_take (i := 7) (oi := { dst := some 85, op := Op.fieldAddr 24 (Operand.tmp 3) 1, type := 0, pos := "ref.go:92", after := #[{ on := 3, ground := Ground.guard }], guard := some (3, true) }) (v := undef) rfl (by kernel_rfl) (by kernel_rfl) (by kernel_rfl) (fun _ _ _ h => h) (Or.inr ⟨by rfl, rfl⟩) (by assumption) ?_
          try simp only [Act.put, List.setIfInBounds_toArray, List.set_cons_zero, List.set_cons_succ]
          refine wpAnyH_take (i := 8) (oi := { dst := some 86, op := Op.load 3 (Operand.tmp 85), type := 3, pos := "ref.go:92", after := #[{ on := 7, ground := Ground.data }, { on := 3, ground := Ground.guard }], guard := some (3, true) }) (v := undef) rfl (by kernel_rfl) (by kernel_rfl) (by kernel_rfl) (fun _ _ _ h => h) (Or.inr ⟨by rfl, rfl⟩) (by assumption) ?_
          try simp only [Act.put, List.setIfInBounds_toArray, List.set_cons_zero, List.set_cons_succ]
          refine wpAnyH_take (i := 9) (oi := { dst := some 87, op := Op.move (Operand.tmp 15), type := 3, pos := "ref.go:92", after := #[{ on := 3, ground := Ground.guard }], guard := some (3, true) }) (v := undef) rfl (by kernel_rfl) (by kernel_rfl) (by kernel_rfl) (fun _ _ _ h => h) (Or.inr ⟨by rfl, rfl⟩) (by assumption) ?_
          try simp only [Act.put, List.setIfInBounds_toArray, List.set_cons_zero, List.set_cons_succ]
          refine wpAnyH_take (i := 10) (oi := { dst := some 88, op := Op.move (Operand.tmp 2), type := 3, pos := "ref.go:92", after := #[{ on := 3, ground := Ground.guard }], guard := some (3, true) }) (v := undef) rfl (by kernel_rfl) (by kernel_rfl) (by kernel_rfl) (fun _ _ _ h => h) (Or.inr ⟨by rfl, rfl⟩) (by assumption) ?_
          try simp only [Act.put, List.setIfInBounds_toArray, List.set_cons_zero, List.set_cons_succ]
          refine wpAnyH_take (i := 11) (oi := { dst := some 89, op := Op.call { callee := Callee.value (Operand.func 36), args := #[Operand.tmp 84, Operand.tmp 86, Operand.tmp 87, Operand.tmp 88], argTypes := #[3, 3, 3, 3] }, type := 3, pos := "ref.go:92", after := #[{ on := 6, ground := Ground.data }, { on := 8, ground := Ground.data }, { on := 9, ground := Ground.data }, { on := 10, ground := Ground.data }, { on := 3, ground := Ground.chain }, { on := 3, ground := Ground.guard }], guard := some (3, true) }) (v := undef) rfl (by kernel_rfl) (by kernel_rfl) (by kernel_rfl) (fun _ _ _ h => h) (Or.inr ⟨by rfl, rfl⟩) (by assumption) ?_
          try simp only [Act.put, List.setIfInBounds_toArray, List.set_cons_zero, List.set_cons_succ]
          refine wpAnyH_take (i := 12) (oi := { dst := some 90, op := Op.call { callee := Callee.value (Operand.func 35), args := #[Operand.tmp 82, Operand.tmp 89], argTypes := #[24, 3] }, type := 4, pos := "ref.go:92", after := #[{ on := 4, ground := Ground.data }, { on := 11, ground := Ground.data }, { on := 11, ground := Ground.chain }, { on := 3, ground := Ground.guard }], guard := some (3, true) }) (v := undef) rfl (by kernel_rfl) (by kernel_rfl) (by kernel_rfl) (fun _ _ _ h => h) (Or.inr ⟨by rfl, rfl⟩) (by assumption) ?_
          try simp only [Act.put, List.setIfInBounds_toArray, List.set_cons_zero, List.set_cons_succ]
          refine wpAnyH_take (i := 13) (oi := { dst := some 91, op := Op.pick (Operand.tmp 81) (Operand.tmp 90) (Operand.const (Value.bool false)), type := 4, pos := "ref.go:92", after := #[{ on := 3, ground := Ground.data }, { on := 12, ground := Ground.data }], guard := none }) (v := ?_) rfl (by kernel_rfl) (by kernel_rfl) (by kernel_rfl) (fun _ _ _ h => h) (Or.inl ⟨by rfl, ?_⟩) (by assumption) ?_
          rotate_left
          · intro w hSw
            try dsimp only at hSw
            go_simp
            try with_reducible rfl
          try simp only [Act.put, List.setIfInBounds_toArray, List.set_cons_zero, List.set_cons_succ]
          refine wpAnyH_take (i := 14) (oi := { dst := some 13, op := Op.assign (Operand.tmp 91), type := 4, pos := "ref.go:92", after := #[{ on := 13, ground := Ground.data }, { on := 12, ground := Ground.chain }, { on := 0, ground := Ground.phase }, { on := 1, ground := Ground.phase }, { on := 2, ground := Ground.phase }, { on := 3, ground := Ground.phase }, { on := 4, ground := Ground.phase }, { on := 5, ground := Ground.phase }, { on := 6, ground := Ground.phase }, { on := 7, ground := Ground.phase }, { on := 8, ground := Ground.phase }, { on := 9, ground := Ground.phase }, { on := 10, ground := Ground.phase }, { on := 11, ground := Ground.phase }, { on := 12, ground := Ground.phase }, { on := 13, ground := Ground.phase }], guard := none }) (v := ?_) rfl (by kernel_rfl) (by kernel_rfl) (by kernel_rfl) (fun _ _ _ h => h) (Or.inl ⟨by rfl, ?_⟩) (by assumption) ?_
          rotate_left
          · intro w hSw
            try dsimp only at hSw
            go_simp
            try with_reducible rfl
          try simp only [Act.put, List.setIfInBounds_toArray, List.set_cons_zero, List.set_cons_succ]
          refine wpAnyH_done (by kernel_rfl) ?_ _
          have hS9 := hd3.gr.trans hHeld.2.2.2
          have HO2 := hide (own_grP HO.out hS9)
          have HR2 := hide (HR.out.trans hS9)
          obtain ⟨m, hm⟩ : ∃ m, curK (capB T o) k = m := ⟨_, rfl⟩
          have H1 := hide (cur_no ho)
          have ck := cur_le (capB T o) k
          have ce := end_len (capB T o) k
          rw [hm] at ck ce ⊢
          by_cases hm0 : m = 0
          · have H2 := hide ((end_no ho).trans (runs_new (hm.trans hm0)))
            subst hm0
            clear ho hm ce
            rw [show ((0 : Nat) : Int) = 0 from rfl]
            go_wp2_with fail
            go_roundw
            case rel => exact ⟨k + 1, by omega, by go_num, by rw [H1.out]; rfl, by rw [H2.out]; exact HO2.out, HR2.out⟩
            case measure => simp [intOf]; omega
          · have hr := runs_go (o := capB T o) (k := k) (by omega)
            rw [hm] at hr
            rw [if_neg hm0] at ce
            have H2 := hide ((end_no ho).trans hr)
            have hmI : 0 < (m : Int) := by omega
            clear ho hm hr
            go_wp2_with (at_builtin; refine wpList_append_own _ rfl _ _ 40 rfl w2.heap.size 53 i0 (.agg #[.int .i64 0, .int .i64 0]) 2 16 Try.underlying40 hi hz0 hz1 hz2 rfl (by decide) _ _ _ rfl (own_grP HO2.out ((Gr.refl _).alloc _)) ⟨_, 0, none⟩ 1 1 [.int .i64 ((k : Int) - m), .int .i64 m] rfl rfl (alloc_two _ _ _ _) (by simp [Value.oneCell']) (by unfold maxLen; omega) (by omega) (by have := HR2.out.size; simp only [World.size_alloc]; omega) ?_; intro v' w6 hown' hgrow hnil)
            go_roundw
            case rel => exact ⟨k + 1, by omega, by go_num, by rw [H1.out]; rfl, by rw [H2.out, List.length_append, flatP_app]; exact hown', Gr.grown (HR2.out.alloc _) hgrow (fun q e => (HO2.out.lt q e).1)⟩
            case measure => simp [intOf]; omega
        · cases hb : opB N f t2
          · have ho : capB T o k = false := by rw [cap_in hin, HPk.out, HTO.out, ha, hb]; rfl
            clear HPk
            go_wp2_with (go_at_call 41; refine (HC.out _).mono ?_; rintro e w3 ⟨rfl, hd3⟩; replace c1 := cell_gr c1 hd3.gr; replace c2 := cell_gr c2 hd3.gr; replace c3 := cell_gr c3 hd3.gr)
            go_region_held3 (fun z => z.cell? ⟨w.heap.size, 0, none⟩ = some (.int .i64 W) ∧ z.cell? ⟨w.heap.size, 1, none⟩ = some (.int .i64 H) ∧ z.cell? ⟨w.heap.size, 2, none⟩ = some (.slice a N cap) ∧ Gr w3 z) (first | exact ⟨c1, c2, c3, (Gr.refl _).drew⟩ | exact ⟨cell_gr hS.1 hg9, cell_gr hS.2.1 hg9, cell_gr hS.2.2.1 hg9, hS.2.2.2.trans hg9⟩) (first | (go_at_call_of 35 t2; have hS := ‹_ ∧ _ ∧ _ ∧ Gr w3 _›; refine (ropen_any W H _ N cap f t2 _ (HSr.out.gr (hd3.gr.trans hS.2.2.2))).mono ?_; rintro e w9 ⟨rfl, hg9⟩; rw [hb]) | (go_at_call 35; have hS := ‹_ ∧ _ ∧ _ ∧ Gr w3 _›; refine (ropen_any W H _ N cap f g _ (HSr.out.gr (hd3.gr.trans hS.2.2.2))).mono ?_; rintro e w9 ⟨rfl, hg9⟩; rw [ha]) | (go_at_call 36; have hS := ‹_ ∧ _ ∧ _ ∧ Gr w3 _›; refine (rover_any _ _ _ 2 _).mono ?_; rintro e w9 ⟨rfl, hd9⟩; rw [HTO.out]; have hg9 := hd9.gr))
            have hS9 := hd3.gr.trans (‹_ ∧ _ ∧ _ ∧ Gr w3 _›).2.2.2
            have HO2 := hide (own_grP HO.out hS9)
            have HR2 := hide (HR.out.trans hS9)
            obtain ⟨m, hm⟩ : ∃ m, curK (capB T o) k = m := ⟨_, rfl⟩
            have H1 := hide (cur_no ho)
            have ck := cur_le (capB T o) k
            have ce := end_len (capB T o) k
            rw [hm] at ck ce ⊢
            by_cases hm0 : m = 0
            · have H2 := hide ((end_no ho).trans (runs_new (hm.trans hm0)))
              subst hm0
              clear ho hm ce
              rw [show ((0 : Nat) : Int) = 0 from rfl]
              go_wp2_with fail
              go_roundw
              case rel => exact ⟨k + 1, by omega, by go_num, by rw [H1.out]; rfl, by rw [H2.out]; exact HO2.out, HR2.out⟩
              case measure => simp [intOf]; omega
            · have hr := runs_go (o := capB T o) (k := k) (by omega)
              rw [hm] at hr
              rw [if_neg hm0] at ce
              have H2 := hide ((end_no ho).trans hr)
              have hmI : 0 < (m : Int) := by omega
              clear ho hm hr
              go_wp2_with (at_builtin; refine wpList_append_own _ rfl _ _ 40 rfl w2.heap.size 53 i0 (.agg #[.int .i64 0, .int .i64 0]) 2 16 Try.underlying40 hi hz0 hz1 hz2 rfl (by decide) _ _ _ rfl (own_grP HO2.out ((Gr.refl _).alloc _)) ⟨_, 0, none⟩ 1 1 [.int .i64 ((k : Int) - m), .int .i64 m] rfl rfl (alloc_two _ _ _ _) (by simp [Value.oneCell']) (by unfold maxLen; omega) (by omega) (by have := HR2.out.size; simp only [World.size_alloc]; omega) ?_; intro v' w6 hown' hgrow hnil)
              go_roundw
              case rel => exact ⟨k + 1, by omega, by go_num, by rw [H1.out]; rfl, by rw [H2.out, List.length_append, flatP_app]; exact hown', Gr.grown (HR2.out.alloc _) hgrow (fun q e => (HO2.out.lt q e).1)⟩
              case measure => simp [intOf]; omega
          · have ho : capB T o k = true := by rw [cap_in hin, HPk.out, HTO.out, ha, hb]; rfl
            clear HPk
            go_wp2_with (go_at_call 41; refine (HC.out _).mono ?_; rintro e w3 ⟨rfl, hd3⟩; replace c1 := cell_gr c1 hd3.gr; replace c2 := cell_gr c2 hd3.gr; replace c3 := cell_gr c3 hd3.gr)
            go_region_held3 (fun z => z.cell? ⟨w.heap.size, 0, none⟩ = some (.int .i64 W) ∧ z.cell? ⟨w.heap.size, 1, none⟩ = some (.int .i64 H) ∧ z.cell? ⟨w.heap.size, 2, none⟩ = some (.slice a N cap) ∧ Gr w3 z) (first | exact ⟨c1, c2, c3, (Gr.refl _).drew⟩ | exact ⟨cell_gr hS.1 hg9, cell_gr hS.2.1 hg9, cell_gr hS.2.2.1 hg9, hS.2.2.2.trans hg9⟩) (first | (go_at_call_of 35 t2; have hS := ‹_ ∧ _ ∧ _ ∧ Gr w3 _›; refine (ropen_any W H _ N cap f t2 _ (HSr.out.gr (hd3.gr.trans hS.2.2.2))).mono ?_; rintro e w9 ⟨rfl, hg9⟩; rw [hb]) | (go_at_call 35; have hS := ‹_ ∧ _ ∧ _ ∧ Gr w3 _›; refine (ropen_any W H _ N cap f g _ (HSr.out.gr (hd3.gr.trans hS.2.2.2))).mono ?_; rintro e w9 ⟨rfl, hg9⟩; rw [ha]) | (go_at_call 36; have hS := ‹_ ∧ _ ∧ _ ∧ Gr w3 _›; refine (rover_any _ _ _ 2 _).mono ?_; rintro e w9 ⟨rfl, hd9⟩; rw [HTO.out]; have hg9 := hd9.gr))
            have hS9 := hd3.gr.trans (‹_ ∧ _ ∧ _ ∧ Gr w3 _›).2.2.2
            have HO2 := hide (own_grP HO.out hS9)
            have HR2 := hide (HR.out.trans hS9)
            have H1 := hide (cur_yes ho)
            have H2 := hide (end_yes ho)
            have ck := cur_le (capB T o) k
            clear ho
            go_wp2_with fail
            go_roundw
            case rel => exact ⟨k + 1, by omega, by go_num, by rw [H1.out]; rfl, by rw [H2.out]; exact HO2.out, HR2.out⟩
            case measure => simp [intOf]; omega
      · have hkT : k = T := by omega
        have hkL : ¬ (k : Int) < tw := by have := HT.out; omega
        have ho : capB T o k = false := by rw [hkT]; exact cap_out T o
        have HO2 := hide HO.out
        have HR2 := hide HR.out
        clear hkT
        obtain ⟨m, hm⟩ : ∃ m, curK (capB T o) k = m := ⟨_, rfl⟩
        have H1 := hide (cur_no ho)
        have ck := cur_le (capB T o) k
        have ce := end_len (capB T o) k
        rw [hm] at ck ce ⊢
        by_cases hm0 : m = 0
        · have H2 := hide ((end_no ho).trans (runs_new (hm.trans hm0)))
          subst hm0
          clear ho hm ce
          rw [show ((0 : Nat) : Int) = 0 from rfl]
          go_wp2_with fail
          go_roundw
          case rel => exact ⟨k + 1, by omega, by go_num, by rw [H1.out]; rfl, by rw [H2.out]; exact HO2.out, HR2.out⟩
          case measure => simp [intOf]; omega
        · have hr := runs_go (o := capB T o) (k := k) (by omega)
          rw [hm] at hr
          rw [if_neg hm0] at ce
          have H2 := hide ((end_no ho).trans hr)
          have hmI : 0 < (m : Int) := by omega
          clear ho hm hr
          go_wp2_with (at_builtin; refine wpList_append_own _ rfl _ _ 40 rfl w2.heap.size 53 i0 (.agg #[.int .i64 0, .int .i64 0]) 2 16 Try.underlying40 hi hz0 hz1 hz2 rfl (by decide) _ _ _ rfl (own_grP HO2.out ((Gr.refl _).alloc _)) ⟨_, 0, none⟩ 1 1 [.int .i64 ((k : Int) - m), .int .i64 m] rfl rfl (alloc_two _ _ _ _) (by simp [Value.oneCell']) (by unfold maxLen; omega) (by omega) (by have := HR2.out.size; simp only [World.size_alloc]; omega) ?_; intro v' w6 hown' hgrow hnil)
          go_roundw
          case rel => exact ⟨k + 1, by omega, by go_num, by rw [H1.out]; rfl, by rw [H2.out, List.length_append, flatP_app]; exact hown', Gr.grown (HR2.out.alloc _) hgrow (fun q e => (HO2.out.lt q e).1)⟩
          case measure => simp [intOf]; omega
    · have hkn : k = T + 1 := by omega
      have hkI : ¬ (k : Int) ≤ tw := by have := HT.out; omega
      subst hkn
      go_wp2
      go_ret
      exact ⟨⟨_, rfl, ownP_base hown HR0.out.size⟩, HR0.out.trans hgr⟩

set_option maxHeartbeats 8000000 in
theorem rruns_3 (W H : Int) (a : Option Addr) (N cap : Nat) (f : Nat → Int) (s : Nat) (w : World) (h : Sl w a N f) (hs : isSectorB W H s = true) :
    Calls Try.prog 22 #[.agg #[.int .i64 W, .int .i64 H, .slice a N cap], .int .i64 s, .int .i64 3] w fun e w' => (∃ v, e = .returned v ∧ w'.ownsRow w.heap.size 53 2 v (runsL W H N f s (3 : Nat)).length (flatP (runsL W H N f s (3 : Nat)))) ∧ Gr w w' := by
  obtain ⟨i0, hi, hz0, hz1, hz2⟩ := info_parts info_run
  rw [runsL_at hs (by omega), ← cap_end]
  obtain ⟨q1, q2, q3⟩ := loc_ok (side := 3) hs (by omega)
  obtain ⟨u1, u2, u3, u4, -, -⟩ := size_bd hs
  have HP : Hid (∀ k, plcB W H N f s 3 k = (opB N f (gcF W s (locF W H s 3 k)) && opB N f (overF W H (gcF W s (locF W H s 3 k)) 3))) := hide fun _ => rfl
  have HX : ∀ k : Nat, k < longF W H s 3 → ((locF W H s 3 k : Nat) : Int) = (k : Int) * twF W s := fun k hk => by
    rw [(q3 k hk).2.1]
    simp [fstF, aptF]
  have HQ := hide (fun (k : Nat) (hk : k < longF W H s 3) (u : World) => by
    have t := tnF_eq hs
    have b := (q3 k hk).1
    have r := rglobal_yes W H s (locF W H s 3 k) u hs (by omega) (by omega)
    rw [← (gcF_eq hs b).1, HX k hk] at r
    exact r)
  have HSz := hide (fun u => rsize_yes W H s u hs)
  have HT : Hid (thF W H s = (longF W H s 3 : Nat)) := hide (by simpa [lngF] using q1)
  clear q1 q3 HX hs
  generalize plcB W H N f s 3 = o at *
  generalize longF W H s 3 = T at *
  generalize twF W s = tw at *
  generalize thF W H s = th at *
  have tw0 : ¬ tw = 0 := by omega
  have m1 := mul_bd (w := th - 1) (h := tw) (W := 16) (H := 16) (by omega) (by omega) (by omega) (by omega)
  have hwU := (Gr.refl w).alloc (.cells #[.int .i64 W, .int .i64 H, .slice a N cap] 24)
  have HS := hide (h.gr hwU)
  have HB := hide (tri_alloc w (.int .i64 W) (.int .i64 H) (.slice a N cap) 24)
  have HWU := hide hwU
  clear h hwU
  go_enter Try.func22, Try.ntmps22
  go_wp2_with (first | (go_at_call 40; refine (HSz.out _).mono ?_; rintro e w1 ⟨rfl, hd1⟩) | (go_at_call 34; refine (in_yes _ _ _ _ (by omega) (by omega)).mono ?_; rintro e w2 ⟨rfl, hd2⟩))
  have HR0 := hide (HWU.out.trans (hd1.gr.trans hd2.gr))
  have HB2 := hide (row_gr HB.out (hd1.gr.trans hd2.gr))
  have HS2 := hide (HS.out.gr (hd1.gr.trans hd2.gr))
  clear HB HS HWU
  have eb : (tw == 0) = false := by simp [tw0]
  rw [eb]
  clear eb tw0
  go_loopw [7, 11, 12] (fun v n i u => ∃ k : Nat, k ≤ T + 1 ∧ i = .int .i64 k ∧ n = .int .i64 (curK (capB T o) k : Nat) ∧ u.ownsRow w2.heap.size 53 2 v (endK (capB T o) k).length (flatP (endK (capB T o) k)) ∧ Gr w2 u) (fun _ _ i _ => T + 1 - (intOf i).toNat)
  case atStart => exact ⟨0, Nat.zero_le _, rfl, rfl, pairs_nil _ _ _, Gr.refl _⟩
  case round =>
    obtain ⟨k, hk, rfl, rfl, hown, hgr⟩ := hrel
    by_cases hle : k ≤ T
    · have hkI : (k : Int) ≤ th := by have := HT.out; omega
      have HO := hide hown
      have HR := hide hgr
      obtain ⟨c1, c2, c3, -, -, -⟩ := row_cells (row_gr HB2.out hgr)
      have HSr := hide (HS2.out.gr hgr)
      clear hown hgr
      by_cases hin : k < T
      · have hkL : (k : Int) < th := by have := HT.out; omega
        have m2 := mul_bd (w := (k : Int)) (h := tw) (W := 16) (H := 16) (by omega) (by omega) (by omega) (by omega)
        obtain ⟨g, hg⟩ : ∃ g, gcF W s (locF W H s 3 k) = g := ⟨_, rfl⟩
        have HC := hide (HQ.out k hin)
        have HPk := hide (HP.out k)
        rw [hg] at HC HPk
        clear hg
        obtain ⟨t2, ht2⟩ : ∃ t2, overF W H g 3 = t2 := ⟨_, rfl⟩
        have HTO := hide ht2
        clear ht2
        cases ha : opB N f g
        · have ho : capB T o k = false := by rw [cap_in hin, HPk.out, ha]; rfl
          clear HPk
          go_wp2_with (go_at_call 41; refine (HC.out _).mono ?_; rintro e w3 ⟨rfl, hd3⟩; replace c1 := cell_gr c1 hd3.gr; replace c2 := cell_gr c2 hd3.gr; replace c3 := cell_gr c3 hd3.gr)
          refine wp_region_held_drew (S := (fun z => z.cell? ⟨w.heap.size, 0, none⟩ = some (.int .i64 W) ∧ z.cell? ⟨w.heap.size, 1, none⟩ = some (.int .i64 H) ∧ z.cell? ⟨w.heap.size, 2, none⟩ = some (.slice a N cap) ∧ Gr w3 z)) (by kernel_rfl) ⟨c1, c2, c3, (Gr.refl _).drew⟩ (fun hHeld => ?_)
          refine wpAnyH_take (i := 0) (oi := { dst := some 78, op := Op.load 24 (Operand.tmp 3), type := 24, pos := "ref.go:92", after := #[], guard := none }) (v := ?_) rfl (by kernel_rfl) (by kernel_rfl) (by kernel_rfl) (fun _ _ _ h => h) (Or.inl ⟨by rfl, ?_⟩) (by assumption) ?_
          rotate_left
          · intro w hSw
            try dsimp only at hSw
            go_simp
            try with_reducible rfl
          try simp only [Act.put, List.setIfInBounds_toArray, List.set_cons_zero, List.set_cons_succ]
          refine wpAnyH_take (i := 1) (oi := { dst := some 79, op := Op.move (Operand.tmp 15), type := 3, pos := "ref.go:92", after := #[], guard := none }) (v := ?_) rfl (by kernel_rfl) (by kernel_rfl) (by kernel_rfl) (fun _ _ _ h => h) (Or.inl ⟨by rfl, ?_⟩) (by assumption) ?_
          rotate_left
          · intro w hSw
            try dsimp only at hSw
            go_simp
            try with_reducible rfl
          try simp only [Act.put, List.setIfInBounds_toArray, List.set_cons_zero, List.set_cons_succ]
          refine wpAnyH_ready (rs := [2]) (by kernel_rfl) (by simp) ?_
          refine AllReadyH.cons (o := { dst := some 80, op := Op.call { callee := Callee.value (Operand.func 35), args := #[Operand.tmp 78, Operand.tmp 79], argTypes := #[24, 3] }, type := 4, pos := "ref.go:92", after := #[{ on := 0, ground := Ground.data }, { on := 1, ground := Ground.data }], guard := none }) rfl (fun K hK => ?_) AllReadyH.nil
          go_simp
          refine (ropen_any W H _ N cap f g _ (HSr.out.gr (hd3.gr.trans hHeld.2.2.2))).mono ?_
          rintro e w9 ⟨rfl, hg9⟩
          rw [ha]
          go_wp2_with fail
          have hS := hHeld
          refine Shut.out hK _ _ ?_ (fun hHeld => ?_)
          · exact ⟨cell_gr hS.1 hg9, cell_gr hS.2.1 hg9, cell_gr hS.2.2.1 hg9, hS.2.2.2.trans hg9⟩
          clear hK K
          try simp only [Act.put, List.setIfInBounds_toArray, List.set_cons_zero, List.set_cons_succ]
          refine wpAnyH_take (i := 3) (oi := { dst := some 81, op := Op.move (Operand.tmp 80), type := 4, pos := "ref.go:92", after := #[{ on := 2, ground := Ground.data }, { on := 2, ground := Ground.chain }], guard := none }) (v := ?_) rfl (by kernel_rfl) (by kernel_rfl) (by kernel_rfl) (fun _ _ _ h => h) (Or.inl ⟨by rfl, ?_⟩) (by assumption) ?_
          rotate_left
          · intro w hSw
            try dsimp only at hSw
            go_simp
            try with_reducible rfl
          try simp only [Act.put, List.setIfInBounds_toArray, List.set_cons_zero, List.set_cons_succ]
          refine wpAnyH_take (i := 4) (oi := { dst := some 82, op := Op.load 24 (Operand.tmp 3), type := 24, pos := "ref.go:92", after := #[{ on := 3, ground := Ground.guard }], guard := some (3, true) }) (v := undef) rfl (by kernel_rfl) (by kernel_rfl) (by kernel_rfl) (fun _ _ _ h => h) (Or.inr ⟨by rfl, rfl⟩) (by assumption) ?_
          try simp only [Act.put, List.setIfInBounds_toArray, List.set_cons_zero, List.set_cons_succ]
          refine wpAnyH_take (i := 5) (oi := { dst := some 83, op := Op.fieldAddr 24 (Operand.tmp 3) 0, type := 0, pos := "ref.go:92", after := #[{ on := 3, ground := Ground.guard }], guard := some (3, true) }) (v := undef) rfl (by kernel_rfl) (by kernel_rfl) (by kernel_rfl) (fun _ _ _ h => h) (Or.inr ⟨by rfl, rfl⟩) (by assumption) ?_
          try simp only [Act.put, List.setIfInBounds_toArray, List.set_cons_zero, List.set_cons_succ]
          refine wpAnyH_take (i := 6) (oi := { dst := some 84, op := Op.load 3 (Operand.tmp 83), type := 3, pos := "ref.go:92", after := #[{ on := 5, ground := Ground.data }, { on := 3, ground := Ground.guard }], guard := some (3, true) }) (v := undef) rfl (by kernel_rfl) (by kernel_rfl) (by kernel_rfl) (fun _ _ _ h => h) (Or.inr ⟨by rfl, rfl⟩) (by assumption) ?_
          try simp only [Act.put, List.setIfInBounds_toArray, List.set_cons_zero, List.set_cons_succ]
          refine wpAnyH_take (i := 7) (oi := { dst := some 85, op := Op.fieldAddr 24 (Operand.tmp 3) 1, type := 0, pos := "ref.go:92", after := #[{ on := 3, ground := Ground.guard }], guard := some (3, true) }) (v := undef) rfl (by kernel_rfl) (by kernel_rfl) (by kernel_rfl) (fun _ _ _ h => h) (Or.inr ⟨by rfl, rfl⟩) (by assumption) ?_
          try simp only [Act.put, List.setIfInBounds_toArray, List.set_cons_zero, List.set_cons_succ]
          refine wpAnyH_take (i := 8) (oi := { dst := some 86, op := Op.load 3 (Operand.tmp 85), type := 3, pos := "ref.go:92", after := #[{ on := 7, ground := Ground.data }, { on := 3, ground := Ground.guard }], guard := some (3, true) }) (v := undef) rfl (by kernel_rfl) (by kernel_rfl) (by kernel_rfl) (fun _ _ _ h => h) (Or.inr ⟨by rfl, rfl⟩) (by assumption) ?_
          try simp only [Act.put, List.setIfInBounds_toArray, List.set_cons_zero, List.set_cons_succ]
          refine wpAnyH_take (i := 9) (oi := { dst := some 87, op := Op.move (Operand.tmp 15), type := 3, pos := "ref.go:92", after := #[{ on := 3, ground := Ground.guard }], guard := some (3, true) }) (v := undef) rfl (by kernel_rfl) (by kernel_rfl) (by kernel_rfl) (fun _ _ _ h => h) (Or.inr ⟨by rfl, rfl⟩) (by assumption) ?_
          try simp only [Act.put, List.setIfInBounds_toArray, List.set_cons_zero, List.set_cons_succ]
          refine wpAnyH_take (i := 10) (oi := { dst := some 88, op := Op.move (Operand.tmp 2), type := 3, pos := "ref.go:92", after := #[{ on := 3, ground := Ground.guard }], guard := some (3, true) }) (v := undef) rfl (by kernel_rfl) (by kernel_rfl) (by kernel_rfl) (fun _ _ _ h => h) (Or.inr ⟨by rfl, rfl⟩) (by assumption) ?_
          try simp only [Act.put, List.setIfInBounds_toArray, List.set_cons_zero, List.set_cons_succ]
          refine wpAnyH_take (i := 11) (oi := { dst := some 89, op := Op.call { callee := Callee.value (Operand.func 36), args := #[Operand.tmp 84, Operand.tmp 86, Operand.tmp 87, Operand.tmp 88], argTypes := #[3, 3, 3, 3] }, type := 3, pos := "ref.go:92", after := #[{ on := 6, ground := Ground.data }, { on := 8, ground := Ground.data }, { on := 9, ground := Ground.data }, { on := 10, ground := Ground.data }, { on := 3, ground := Ground.chain }, { on := 3, ground := Ground.guard }], guard := some (3, true) }) (v := undef) rfl (by kernel_rfl) (by kernel_rfl) (by kernel_rfl) (fun _ _ _ h => h) (Or.inr ⟨by rfl, rfl⟩) (by assumption) ?_
          try simp only [Act.put, List.setIfInBounds_toArray, List.set_cons_zero, List.set_cons_succ]
          refine wpAnyH_take (i := 12) (oi := { dst := some 90, op := Op.call { callee := Callee.value (Operand.func 35), args := #[Operand.tmp 82, Operand.tmp 89], argTypes := #[24, 3] }, type := 4, pos := "ref.go:92", after := #[{ on := 4, ground := Ground.data }, { on := 11, ground := Ground.data }, { on := 11, ground := Ground.chain }, { on := 3, ground := Ground.guard }], guard := some (3, true) }) (v := undef) rfl (by kernel_rfl) (by kernel_rfl) (by kernel_rfl) (fun _ _ _ h => h) (Or.inr ⟨by rfl, rfl⟩) (by assumption) ?_
          try simp only [Act.put, List.setIfInBounds_toArray, List.set_cons_zero, List.set_cons_succ]
          refine wpAnyH_take (i := 13) (oi := { dst := some 91, op := Op.pick (Operand.tmp 81) (Operand.tmp 90) (Operand.const (Value.bool false)), type := 4, pos := "ref.go:92", after := #[{ on := 3, ground := Ground.data }, { on := 12, ground := Ground.data }], guard := none }) (v := ?_) rfl (by kernel_rfl) (by kernel_rfl) (by kernel_rfl) (fun _ _ _ h => h) (Or.inl ⟨by rfl, ?_⟩) (by assumption) ?_
          rotate_left
          · intro w hSw
            try dsimp only at hSw
            go_simp
            try with_reducible rfl
          try simp only [Act.put, List.setIfInBounds_toArray, List.set_cons_zero, List.set_cons_succ]
          refine wpAnyH_take (i := 14) (oi := { dst := some 13, op := Op.assign (Operand.tmp 91), type := 4, pos := "ref.go:92", after := #[{ on := 13, ground := Ground.data }, { on := 12, ground := Ground.chain }, { on := 0, ground := Ground.phase }, { on := 1, ground := Ground.phase }, { on := 2, ground := Ground.phase }, { on := 3, ground := Ground.phase }, { on := 4, ground := Ground.phase }, { on := 5, ground := Ground.phase }, { on := 6, ground := Ground.phase }, { on := 7, ground := Ground.phase }, { on := 8, ground := Ground.phase }, { on := 9, ground := Ground.phase }, { on := 10, ground := Ground.phase }, { on := 11, ground := Ground.phase }, { on := 12, ground := Ground.phase }, { on := 13, ground := Ground.phase }], guard := none }) (v := ?_) rfl (by kernel_rfl) (by kernel_rfl) (by kernel_rfl) (fun _ _ _ h => h) (Or.inl ⟨by rfl, ?_⟩) (by assumption) ?_
          rotate_left
          · intro w hSw
            try dsimp only at hSw
            go_simp
            try with_reducible rfl
          try simp only [Act.put, List.setIfInBounds_toArray, List.set_cons_zero, List.set_cons_succ]
          refine wpAnyH_done (by kernel_rfl) ?_ _
          have hS9 := hd3.gr.trans hHeld.2.2.2
          have HO2 := hide (own_grP HO.out hS9)
          have HR2 := hide (HR.out.trans hS9)
          obtain ⟨m, hm⟩ : ∃ m, curK (capB T o) k = m := ⟨_, rfl⟩
          have H1 := hide (cur_no ho)
          have ck := cur_le (capB T o) k
          have ce := end_len (capB T o) k
          rw [hm] at ck ce ⊢
          by_cases hm0 : m = 0
          · have H2 := hide ((end_no ho).trans (runs_new (hm.trans hm0)))
            subst hm0
            clear ho hm ce
            rw [show ((0 : Nat) : Int) = 0 from rfl]
            go_wp2_with fail
            go_roundw
            case rel => exact ⟨k + 1, by omega, by go_num, by rw [H1.out]; rfl, by rw [H2.out]; exact HO2.out, HR2.out⟩
            case measure => simp [intOf]; omega
          · have hr := runs_go (o := capB T o) (k := k) (by omega)
            rw [hm] at hr
            rw [if_neg hm0] at ce
            have H2 := hide ((end_no ho).trans hr)
            have hmI : 0 < (m : Int) := by omega
            clear ho hm hr
            go_wp2_with (at_builtin; refine wpList_append_own _ rfl _ _ 40 rfl w2.heap.size 53 i0 (.agg #[.int .i64 0, .int .i64 0]) 2 16 Try.underlying40 hi hz0 hz1 hz2 rfl (by decide) _ _ _ rfl (own_grP HO2.out ((Gr.refl _).alloc _)) ⟨_, 0, none⟩ 1 1 [.int .i64 ((k : Int) - m), .int .i64 m] rfl rfl (alloc_two _ _ _ _) (by simp [Value.oneCell']) (by unfold maxLen; omega) (by omega) (by have := HR2.out.size; simp only [World.size_alloc]; omega) ?_; intro v' w6 hown' hgrow hnil)
            go_roundw
            case rel => exact ⟨k + 1, by omega, by go_num, by rw [H1.out]; rfl, by rw [H2.out, List.length_append, flatP_app]; exact hown', Gr.grown (HR2.out.alloc _) hgrow (fun q e => (HO2.out.lt q e).1)⟩
            case measure => simp [intOf]; omega
        · cases hb : opB N f t2
          · have ho : capB T o k = false := by rw [cap_in hin, HPk.out, HTO.out, ha, hb]; rfl
            clear HPk
            go_wp2_with (go_at_call 41; refine (HC.out _).mono ?_; rintro e w3 ⟨rfl, hd3⟩; replace c1 := cell_gr c1 hd3.gr; replace c2 := cell_gr c2 hd3.gr; replace c3 := cell_gr c3 hd3.gr)
            go_region_held3 (fun z => z.cell? ⟨w.heap.size, 0, none⟩ = some (.int .i64 W) ∧ z.cell? ⟨w.heap.size, 1, none⟩ = some (.int .i64 H) ∧ z.cell? ⟨w.heap.size, 2, none⟩ = some (.slice a N cap) ∧ Gr w3 z) (first | exact ⟨c1, c2, c3, (Gr.refl _).drew⟩ | exact ⟨cell_gr hS.1 hg9, cell_gr hS.2.1 hg9, cell_gr hS.2.2.1 hg9, hS.2.2.2.trans hg9⟩) (first | (go_at_call_of 35 t2; have hS := ‹_ ∧ _ ∧ _ ∧ Gr w3 _›; refine (ropen_any W H _ N cap f t2 _ (HSr.out.gr (hd3.gr.trans hS.2.2.2))).mono ?_; rintro e w9 ⟨rfl, hg9⟩; rw [hb]) | (go_at_call 35; have hS := ‹_ ∧ _ ∧ _ ∧ Gr w3 _›; refine (ropen_any W H _ N cap f g _ (HSr.out.gr (hd3.gr.trans hS.2.2.2))).mono ?_; rintro e w9 ⟨rfl, hg9⟩; rw [ha]) | (go_at_call 36; have hS := ‹_ ∧ _ ∧ _ ∧ Gr w3 _›; refine (rover_any _ _ _ 3 _).mono ?_; rintro e w9 ⟨rfl, hd9⟩; rw [HTO.out]; have hg9 := hd9.gr))
            have hS9 := hd3.gr.trans (‹_ ∧ _ ∧ _ ∧ Gr w3 _›).2.2.2
            have HO2 := hide (own_grP HO.out hS9)
            have HR2 := hide (HR.out.trans hS9)
            obtain ⟨m, hm⟩ : ∃ m, curK (capB T o) k = m := ⟨_, rfl⟩
            have H1 := hide (cur_no ho)
            have ck := cur_le (capB T o) k
            have ce := end_len (capB T o) k
            rw [hm] at ck ce ⊢
            by_cases hm0 : m = 0
            · have H2 := hide ((end_no ho).trans (runs_new (hm.trans hm0)))
              subst hm0
              clear ho hm ce
              rw [show ((0 : Nat) : Int) = 0 from rfl]
              go_wp2_with fail
              go_roundw
              case rel => exact ⟨k + 1, by omega, by go_num, by rw [H1.out]; rfl, by rw [H2.out]; exact HO2.out, HR2.out⟩
              case measure => simp [intOf]; omega
            · have hr := runs_go (o := capB T o) (k := k) (by omega)
              rw [hm] at hr
              rw [if_neg hm0] at ce
              have H2 := hide ((end_no ho).trans hr)
              have hmI : 0 < (m : Int) := by omega
              clear ho hm hr
              go_wp2_with (at_builtin; refine wpList_append_own _ rfl _ _ 40 rfl w2.heap.size 53 i0 (.agg #[.int .i64 0, .int .i64 0]) 2 16 Try.underlying40 hi hz0 hz1 hz2 rfl (by decide) _ _ _ rfl (own_grP HO2.out ((Gr.refl _).alloc _)) ⟨_, 0, none⟩ 1 1 [.int .i64 ((k : Int) - m), .int .i64 m] rfl rfl (alloc_two _ _ _ _) (by simp [Value.oneCell']) (by unfold maxLen; omega) (by omega) (by have := HR2.out.size; simp only [World.size_alloc]; omega) ?_; intro v' w6 hown' hgrow hnil)
              go_roundw
              case rel => exact ⟨k + 1, by omega, by go_num, by rw [H1.out]; rfl, by rw [H2.out, List.length_append, flatP_app]; exact hown', Gr.grown (HR2.out.alloc _) hgrow (fun q e => (HO2.out.lt q e).1)⟩
              case measure => simp [intOf]; omega
          · have ho : capB T o k = true := by rw [cap_in hin, HPk.out, HTO.out, ha, hb]; rfl
            clear HPk
            go_wp2_with (go_at_call 41; refine (HC.out _).mono ?_; rintro e w3 ⟨rfl, hd3⟩; replace c1 := cell_gr c1 hd3.gr; replace c2 := cell_gr c2 hd3.gr; replace c3 := cell_gr c3 hd3.gr)
            go_region_held3 (fun z => z.cell? ⟨w.heap.size, 0, none⟩ = some (.int .i64 W) ∧ z.cell? ⟨w.heap.size, 1, none⟩ = some (.int .i64 H) ∧ z.cell? ⟨w.heap.size, 2, none⟩ = some (.slice a N cap) ∧ Gr w3 z) (first | exact ⟨c1, c2, c3, (Gr.refl _).drew⟩ | exact ⟨cell_gr hS.1 hg9, cell_gr hS.2.1 hg9, cell_gr hS.2.2.1 hg9, hS.2.2.2.trans hg9⟩) (first | (go_at_call_of 35 t2; have hS := ‹_ ∧ _ ∧ _ ∧ Gr w3 _›; refine (ropen_any W H _ N cap f t2 _ (HSr.out.gr (hd3.gr.trans hS.2.2.2))).mono ?_; rintro e w9 ⟨rfl, hg9⟩; rw [hb]) | (go_at_call 35; have hS := ‹_ ∧ _ ∧ _ ∧ Gr w3 _›; refine (ropen_any W H _ N cap f g _ (HSr.out.gr (hd3.gr.trans hS.2.2.2))).mono ?_; rintro e w9 ⟨rfl, hg9⟩; rw [ha]) | (go_at_call 36; have hS := ‹_ ∧ _ ∧ _ ∧ Gr w3 _›; refine (rover_any _ _ _ 3 _).mono ?_; rintro e w9 ⟨rfl, hd9⟩; rw [HTO.out]; have hg9 := hd9.gr))
            have hS9 := hd3.gr.trans (‹_ ∧ _ ∧ _ ∧ Gr w3 _›).2.2.2
            have HO2 := hide (own_grP HO.out hS9)
            have HR2 := hide (HR.out.trans hS9)
            have H1 := hide (cur_yes ho)
            have H2 := hide (end_yes ho)
            have ck := cur_le (capB T o) k
            clear ho
            go_wp2_with fail
            go_roundw
            case rel => exact ⟨k + 1, by omega, by go_num, by rw [H1.out]; rfl, by rw [H2.out]; exact HO2.out, HR2.out⟩
            case measure => simp [intOf]; omega
      · have hkT : k = T := by omega
        have hkL : ¬ (k : Int) < th := by have := HT.out; omega
        have ho : capB T o k = false := by rw [hkT]; exact cap_out T o
        have HO2 := hide HO.out
        have HR2 := hide HR.out
        clear hkT
        obtain ⟨m, hm⟩ : ∃ m, curK (capB T o) k = m := ⟨_, rfl⟩
        have H1 := hide (cur_no ho)
        have ck := cur_le (capB T o) k
        have ce := end_len (capB T o) k
        rw [hm] at ck ce ⊢
        by_cases hm0 : m = 0
        · have H2 := hide ((end_no ho).trans (runs_new (hm.trans hm0)))
          subst hm0
          clear ho hm ce
          rw [show ((0 : Nat) : Int) = 0 from rfl]
          go_wp2_with fail
          go_roundw
          case rel => exact ⟨k + 1, by omega, by go_num, by rw [H1.out]; rfl, by rw [H2.out]; exact HO2.out, HR2.out⟩
          case measure => simp [intOf]; omega
        · have hr := runs_go (o := capB T o) (k := k) (by omega)
          rw [hm] at hr
          rw [if_neg hm0] at ce
          have H2 := hide ((end_no ho).trans hr)
          have hmI : 0 < (m : Int) := by omega
          clear ho hm hr
          go_wp2_with (at_builtin; refine wpList_append_own _ rfl _ _ 40 rfl w2.heap.size 53 i0 (.agg #[.int .i64 0, .int .i64 0]) 2 16 Try.underlying40 hi hz0 hz1 hz2 rfl (by decide) _ _ _ rfl (own_grP HO2.out ((Gr.refl _).alloc _)) ⟨_, 0, none⟩ 1 1 [.int .i64 ((k : Int) - m), .int .i64 m] rfl rfl (alloc_two _ _ _ _) (by simp [Value.oneCell']) (by unfold maxLen; omega) (by omega) (by have := HR2.out.size; simp only [World.size_alloc]; omega) ?_; intro v' w6 hown' hgrow hnil)
          go_roundw
          case rel => exact ⟨k + 1, by omega, by go_num, by rw [H1.out]; rfl, by rw [H2.out, List.length_append, flatP_app]; exact hown', Gr.grown (HR2.out.alloc _) hgrow (fun q e => (HO2.out.lt q e).1)⟩
          case measure => simp [intOf]; omega
    · have hkn : k = T + 1 := by omega
      have hkI : ¬ (k : Int) ≤ th := by have := HT.out; omega
      subst hkn
      go_wp2
      go_ret
      exact ⟨⟨_, rfl, ownP_base hown HR0.out.size⟩, HR0.out.trans hgr⟩

set_option maxHeartbeats 8000000 in
theorem rruns_1 (W H : Int) (a : Option Addr) (N cap : Nat) (f : Nat → Int) (s : Nat) (w : World) (h : Sl w a N f) (hs : isSectorB W H s = true) :
    Calls Try.prog 22 #[.agg #[.int .i64 W, .int .i64 H, .slice a N cap], .int .i64 s, .int .i64 1] w fun e w' => (∃ v, e = .returned v ∧ w'.ownsRow w.heap.size 53 2 v (runsL W H N f s (1 : Nat)).length (flatP (runsL W H N f s (1 : Nat)))) ∧ Gr w w' := by
  obtain ⟨i0, hi, hz0, hz1, hz2⟩ := info_parts info_run
  rw [runsL_at hs (by omega), ← cap_end]
  obtain ⟨q1, q2, q3⟩ := loc_ok (side := 1) hs (by omega)
  obtain ⟨u1, u2, u3, u4, -, -⟩ := size_bd hs
  have HP : Hid (∀ k, plcB W H N f s 1 k = (opB N f (gcF W s (locF W H s 1 k)) && opB N f (overF W H (gcF W s (locF W H s 1 k)) 1))) := hide fun _ => rfl
  have HX : ∀ k : Nat, k < longF W H s 1 → ((locF W H s 1 k : Nat) : Int) = (k : Int) * twF W s + twF W s - 1 := fun k hk => by
    rw [(q3 k hk).2.1]
    simp [fstF, aptF]
    omega
  have HQ := hide (fun (k : Nat) (hk : k < longF W H s 1) (u : World) => by
    have t := tnF_eq hs
    have b := (q3 k hk).1
    have r := rglobal_yes W H s (locF W H s 1 k) u hs (by omega) (by omega)
    rw [← (gcF_eq hs b).1, HX k hk] at r
    exact r)
  have HSz := hide (fun u => rsize_yes W H s u hs)
  have HT : Hid (thF W H s = (longF W H s 1 : Nat)) := hide (by simpa [lngF] using q1)
  clear q1 q3 HX hs
  generalize plcB W H N f s 1 = o at *
  generalize longF W H s 1 = T at *
  generalize twF W s = tw at *
  generalize thF W H s = th at *
  have tw0 : ¬ tw = 0 := by omega
  have m1 := mul_bd (w := th - 1) (h := tw) (W := 16) (H := 16) (by omega) (by omega) (by omega) (by omega)
  have hwU := (Gr.refl w).alloc (.cells #[.int .i64 W, .int .i64 H, .slice a N cap] 24)
  have HS := hide (h.gr hwU)
  have HB := hide (tri_alloc w (.int .i64 W) (.int .i64 H) (.slice a N cap) 24)
  have HWU := hide hwU
  clear h hwU
  go_enter Try.func22, Try.ntmps22
  go_wp2_with (first | (go_at_call 40; refine (HSz.out _).mono ?_; rintro e w1 ⟨rfl, hd1⟩) | (go_at_call 34; refine (in_yes _ _ _ _ (by omega) (by omega)).mono ?_; rintro e w2 ⟨rfl, hd2⟩))
  have HR0 := hide (HWU.out.trans (hd1.gr.trans hd2.gr))
  have HB2 := hide (row_gr HB.out (hd1.gr.trans hd2.gr))
  have HS2 := hide (HS.out.gr (hd1.gr.trans hd2.gr))
  clear HB HS HWU
  have eb : (tw == 0) = false := by simp [tw0]
  rw [eb]
  clear eb tw0
  go_loopw [7, 11, 12] (fun v n i u => ∃ k : Nat, k ≤ T + 1 ∧ i = .int .i64 k ∧ n = .int .i64 (curK (capB T o) k : Nat) ∧ u.ownsRow w2.heap.size 53 2 v (endK (capB T o) k).length (flatP (endK (capB T o) k)) ∧ Gr w2 u) (fun _ _ i _ => T + 1 - (intOf i).toNat)
  case atStart => exact ⟨0, Nat.zero_le _, rfl, rfl, pairs_nil _ _ _, Gr.refl _⟩
  case round =>
    obtain ⟨k, hk, rfl, rfl, hown, hgr⟩ := hrel
    by_cases hle : k ≤ T
    · have hkI : (k : Int) ≤ th := by have := HT.out; omega
      have HO := hide hown
      have HR := hide hgr
      obtain ⟨c1, c2, c3, -, -, -⟩ := row_cells (row_gr HB2.out hgr)
      have HSr := hide (HS2.out.gr hgr)
      clear hown hgr
      by_cases hin : k < T
      · have hkL : (k : Int) < th := by have := HT.out; omega
        have m2 := mul_bd (w := (k : Int)) (h := tw) (W := 16) (H := 16) (by omega) (by omega) (by omega) (by omega)
        obtain ⟨g, hg⟩ : ∃ g, gcF W s (locF W H s 1 k) = g := ⟨_, rfl⟩
        have HC := hide (HQ.out k hin)
        have HPk := hide (HP.out k)
        rw [hg] at HC HPk
        clear hg
        obtain ⟨t2, ht2⟩ : ∃ t2, overF W H g 1 = t2 := ⟨_, rfl⟩
        have HTO := hide ht2
        clear ht2
        cases ha : opB N f g
        · have ho : capB T o k = false := by rw [cap_in hin, HPk.out, ha]; rfl
          clear HPk
          go_wp2_with (go_at_call 41; refine (HC.out _).mono ?_; rintro e w3 ⟨rfl, hd3⟩; replace c1 := cell_gr c1 hd3.gr; replace c2 := cell_gr c2 hd3.gr; replace c3 := cell_gr c3 hd3.gr)
          refine wp_region_held_drew (S := (fun z => z.cell? ⟨w.heap.size, 0, none⟩ = some (.int .i64 W) ∧ z.cell? ⟨w.heap.size, 1, none⟩ = some (.int .i64 H) ∧ z.cell? ⟨w.heap.size, 2, none⟩ = some (.slice a N cap) ∧ Gr w3 z)) (by kernel_rfl) ⟨c1, c2, c3, (Gr.refl _).drew⟩ (fun hHeld => ?_)
          refine wpAnyH_take (i := 0) (oi := { dst := some 78, op := Op.load 24 (Operand.tmp 3), type := 24, pos := "ref.go:92", after := #[], guard := none }) (v := ?_) rfl (by kernel_rfl) (by kernel_rfl) (by kernel_rfl) (fun _ _ _ h => h) (Or.inl ⟨by rfl, ?_⟩) (by assumption) ?_
          rotate_left
          · intro w hSw
            try dsimp only at hSw
            go_simp
            try with_reducible rfl
          try simp only [Act.put, List.setIfInBounds_toArray, List.set_cons_zero, List.set_cons_succ]
          refine wpAnyH_take (i := 1) (oi := { dst := some 79, op := Op.move (Operand.tmp 15), type := 3, pos := "ref.go:92", after := #[], guard := none }) (v := ?_) rfl (by kernel_rfl) (by kernel_rfl) (by kernel_rfl) (fun _ _ _ h => h) (Or.inl ⟨by rfl, ?_⟩) (by assumption) ?_
          rotate_left
          · intro w hSw
            try dsimp only at hSw
            go_simp
            try with_reducible rfl
          try simp only [Act.put, List.setIfInBounds_toArray, List.set_cons_zero, List.set_cons_succ]
          refine wpAnyH_ready (rs := [2]) (by kernel_rfl) (by simp) ?_
          refine AllReadyH.cons (o := { dst := some 80, op := Op.call { callee := Callee.value (Operand.func 35), args := #[Operand.tmp 78, Operand.tmp 79], argTypes := #[24, 3] }, type := 4, pos := "ref.go:92", after := #[{ on := 0, ground := Ground.data }, { on := 1, ground := Ground.data }], guard := none }) rfl (fun K hK => ?_) AllReadyH.nil
          go_simp
          refine (ropen_any W H _ N cap f g _ (HSr.out.gr (hd3.gr.trans hHeld.2.2.2))).mono ?_
          rintro e w9 ⟨rfl, hg9⟩
          rw [ha]
          go_wp2_with fail
          have hS := hHeld
          refine Shut.out hK _ _ ?_ (fun hHeld => ?_)
          · exact ⟨cell_gr hS.1 hg9, cell_gr hS.2.1 hg9, cell_gr hS.2.2.1 hg9, hS.2.2.2.trans hg9⟩
          clear hK K
          try simp only [Act.put, List.setIfInBounds_toArray, List.set_cons_zero, List.set_cons_succ]
          refine wpAnyH_take (i := 3) (oi := { dst := some 81, op := Op.move (Operand.tmp 80), type := 4, pos := "ref.go:92", after := #[{ on := 2, ground := Ground.data }, { on := 2, ground := Ground.chain }], guard := none }) (v := ?_) rfl (by kernel_rfl) (by kernel_rfl) (by kernel_rfl) (fun _ _ _ h => h) (Or.inl ⟨by rfl, ?_⟩) (by assumption) ?_
          rotate_left
          · intro w hSw
            try dsimp only at hSw
            go_simp
            try with_reducible rfl
          try simp only [Act.put, List.setIfInBounds_toArray, List.set_cons_zero, List.set_cons_succ]
          refine wpAnyH_take (i := 4) (oi := { dst := some 82, op := Op.load 24 (Operand.tmp 3), type := 24, pos := "ref.go:92", after := #[{ on := 3, ground := Ground.guard }], guard := some (3, true) }) (v := undef) rfl (by kernel_rfl) (by kernel_rfl) (by kernel_rfl) (fun _ _ _ h => h) (Or.inr ⟨by rfl, rfl⟩) (by assumption) ?_
          try simp only [Act.put, List.setIfInBounds_toArray, List.set_cons_zero, List.set_cons_succ]
          refine wpAnyH_take (i := 5) (oi := { dst := some 83, op := Op.fieldAddr 24 (Operand.tmp 3) 0, type := 0, pos := "ref.go:92", after := #[{ on := 3, ground := Ground.guard }], guard := some (3, true) }) (v := undef) rfl (by kernel_rfl) (by kernel_rfl) (by kernel_rfl) (fun _ _ _ h => h) (Or.inr ⟨by rfl, rfl⟩) (by assumption) ?_
          try simp only [Act.put, List.setIfInBounds_toArray, List.set_cons_zero, List.set_cons_succ]
          refine wpAnyH_take (i := 6) (oi := { dst := some 84, op := Op.load 3 (Operand.tmp 83), type := 3, pos := "ref.go:92", after := #[{ on := 5, ground := Ground.data }, { on := 3, ground := Ground.guard }], guard := some (3, true) }) (v := undef) rfl (by kernel_rfl) (by kernel_rfl) (by kernel_rfl) (fun _ _ _ h => h) (Or.inr ⟨by rfl, rfl⟩) (by assumption) ?_
          try simp only [Act.put, List.setIfInBounds_toArray, List.set_cons_zero, List.set_cons_succ]
          refine wpAnyH_take (i := 7) (oi := { dst := some 85, op := Op.fieldAddr 24 (Operand.tmp 3) 1, type := 0, pos := "ref.go:92", after := #[{ on := 3, ground := Ground.guard }], guard := some (3, true) }) (v := undef) rfl (by kernel_rfl) (by kernel_rfl) (by kernel_rfl) (fun _ _ _ h => h) (Or.inr ⟨by rfl, rfl⟩) (by assumption) ?_
          try simp only [Act.put, List.setIfInBounds_toArray, List.set_cons_zero, List.set_cons_succ]
          refine wpAnyH_take (i := 8) (oi := { dst := some 86, op := Op.load 3 (Operand.tmp 85), type := 3, pos := "ref.go:92", after := #[{ on := 7, ground := Ground.data }, { on := 3, ground := Ground.guard }], guard := some (3, true) }) (v := undef) rfl (by kernel_rfl) (by kernel_rfl) (by kernel_rfl) (fun _ _ _ h => h) (Or.inr ⟨by rfl, rfl⟩) (by assumption) ?_
          try simp only [Act.put, List.setIfInBounds_toArray, List.set_cons_zero, List.set_cons_succ]
          refine wpAnyH_take (i := 9) (oi := { dst := some 87, op := Op.move (Operand.tmp 15), type := 3, pos := "ref.go:92", after := #[{ on := 3, ground := Ground.guard }], guard := some (3, true) }) (v := undef) rfl (by kernel_rfl) (by kernel_rfl) (by kernel_rfl) (fun _ _ _ h => h) (Or.inr ⟨by rfl, rfl⟩) (by assumption) ?_
          try simp only [Act.put, List.setIfInBounds_toArray, List.set_cons_zero, List.set_cons_succ]
          refine wpAnyH_take (i := 10) (oi := { dst := some 88, op := Op.move (Operand.tmp 2), type := 3, pos := "ref.go:92", after := #[{ on := 3, ground := Ground.guard }], guard := some (3, true) }) (v := undef) rfl (by kernel_rfl) (by kernel_rfl) (by kernel_rfl) (fun _ _ _ h => h) (Or.inr ⟨by rfl, rfl⟩) (by assumption) ?_
          try simp only [Act.put, List.setIfInBounds_toArray, List.set_cons_zero, List.set_cons_succ]
          refine wpAnyH_take (i := 11) (oi := { dst := some 89, op := Op.call { callee := Callee.value (Operand.func 36), args := #[Operand.tmp 84, Operand.tmp 86, Operand.tmp 87, Operand.tmp 88], argTypes := #[3, 3, 3, 3] }, type := 3, pos := "ref.go:92", after := #[{ on := 6, ground := Ground.data }, { on := 8, ground := Ground.data }, { on := 9, ground := Ground.data }, { on := 10, ground := Ground.data }, { on := 3, ground := Ground.chain }, { on := 3, ground := Ground.guard }], guard := some (3, true) }) (v := undef) rfl (by kernel_rfl) (by kernel_rfl) (by kernel_rfl) (fun _ _ _ h => h) (Or.inr ⟨by rfl, rfl⟩) (by assumption) ?_
          try simp only [Act.put, List.setIfInBounds_toArray, List.set_cons_zero, List.set_cons_succ]
          refine wpAnyH_take (i := 12) (oi := { dst := some 90, op := Op.call { callee := Callee.value (Operand.func 35), args := #[Operand.tmp 82, Operand.tmp 89], argTypes := #[24, 3] }, type := 4, pos := "ref.go:92", after := #[{ on := 4, ground := Ground.data }, { on := 11, ground := Ground.data }, { on := 11, ground := Ground.chain }, { on := 3, ground := Ground.guard }], guard := some (3, true) }) (v := undef) rfl (by kernel_rfl) (by kernel_rfl) (by kernel_rfl) (fun _ _ _ h => h) (Or.inr ⟨by rfl, rfl⟩) (by assumption) ?_
          try simp only [Act.put, List.setIfInBounds_toArray, List.set_cons_zero, List.set_cons_succ]
          refine wpAnyH_take (i := 13) (oi := { dst := some 91, op := Op.pick (Operand.tmp 81) (Operand.tmp 90) (Operand.const (Value.bool false)), type := 4, pos := "ref.go:92", after := #[{ on := 3, ground := Ground.data }, { on := 12, ground := Ground.data }], guard := none }) (v := ?_) rfl (by kernel_rfl) (by kernel_rfl) (by kernel_rfl) (fun _ _ _ h => h) (Or.inl ⟨by rfl, ?_⟩) (by assumption) ?_
          rotate_left
          · intro w hSw
            try dsimp only at hSw
            go_simp
            try with_reducible rfl
          try simp only [Act.put, List.setIfInBounds_toArray, List.set_cons_zero, List.set_cons_succ]
          refine wpAnyH_take (i := 14) (oi := { dst := some 13, op := Op.assign (Operand.tmp 91), type := 4, pos := "ref.go:92", after := #[{ on := 13, ground := Ground.data }, { on := 12, ground := Ground.chain }, { on := 0, ground := Ground.phase }, { on := 1, ground := Ground.phase }, { on := 2, ground := Ground.phase }, { on := 3, ground := Ground.phase }, { on := 4, ground := Ground.phase }, { on := 5, ground := Ground.phase }, { on := 6, ground := Ground.phase }, { on := 7, ground := Ground.phase }, { on := 8, ground := Ground.phase }, { on := 9, ground := Ground.phase }, { on := 10, ground := Ground.phase }, { on := 11, ground := Ground.phase }, { on := 12, ground := Ground.phase }, { on := 13, ground := Ground.phase }], guard := none }) (v := ?_) rfl (by kernel_rfl) (by kernel_rfl) (by kernel_rfl) (fun _ _ _ h => h) (Or.inl ⟨by rfl, ?_⟩) (by assumption) ?_
          rotate_left
          · intro w hSw
            try dsimp only at hSw
            go_simp
            try with_reducible rfl
          try simp only [Act.put, List.setIfInBounds_toArray, List.set_cons_zero, List.set_cons_succ]
          refine wpAnyH_done (by kernel_rfl) ?_ _
          have hS9 := hd3.gr.trans hHeld.2.2.2
          have HO2 := hide (own_grP HO.out hS9)
          have HR2 := hide (HR.out.trans hS9)
          obtain ⟨m, hm⟩ : ∃ m, curK (capB T o) k = m := ⟨_, rfl⟩
          have H1 := hide (cur_no ho)
          have ck := cur_le (capB T o) k
          have ce := end_len (capB T o) k
          rw [hm] at ck ce ⊢
          by_cases hm0 : m = 0
          · have H2 := hide ((end_no ho).trans (runs_new (hm.trans hm0)))
            subst hm0
            clear ho hm ce
            rw [show ((0 : Nat) : Int) = 0 from rfl]
            go_wp2_with fail
            go_roundw
            case rel => exact ⟨k + 1, by omega, by go_num, by rw [H1.out]; rfl, by rw [H2.out]; exact HO2.out, HR2.out⟩
            case measure => simp [intOf]; omega
          · have hr := runs_go (o := capB T o) (k := k) (by omega)
            rw [hm] at hr
            rw [if_neg hm0] at ce
            have H2 := hide ((end_no ho).trans hr)
            have hmI : 0 < (m : Int) := by omega
            clear ho hm hr
            go_wp2_with (at_builtin; refine wpList_append_own _ rfl _ _ 40 rfl w2.heap.size 53 i0 (.agg #[.int .i64 0, .int .i64 0]) 2 16 Try.underlying40 hi hz0 hz1 hz2 rfl (by decide) _ _ _ rfl (own_grP HO2.out ((Gr.refl _).alloc _)) ⟨_, 0, none⟩ 1 1 [.int .i64 ((k : Int) - m), .int .i64 m] rfl rfl (alloc_two _ _ _ _) (by simp [Value.oneCell']) (by unfold maxLen; omega) (by omega) (by have := HR2.out.size; simp only [World.size_alloc]; omega) ?_; intro v' w6 hown' hgrow hnil)
            go_roundw
            case rel => exact ⟨k + 1, by omega, by go_num, by rw [H1.out]; rfl, by rw [H2.out, List.length_append, flatP_app]; exact hown', Gr.grown (HR2.out.alloc _) hgrow (fun q e => (HO2.out.lt q e).1)⟩
            case measure => simp [intOf]; omega
        · cases hb : opB N f t2
          · have ho : capB T o k = false := by rw [cap_in hin, HPk.out, HTO.out, ha, hb]; rfl
            clear HPk
            go_wp2_with (go_at_call 41; refine (HC.out _).mono ?_; rintro e w3 ⟨rfl, hd3⟩; replace c1 := cell_gr c1 hd3.gr; replace c2 := cell_gr c2 hd3.gr; replace c3 := cell_gr c3 hd3.gr)
            go_region_held3 (fun z => z.cell? ⟨w.heap.size, 0, none⟩ = some (.int .i64 W) ∧ z.cell? ⟨w.heap.size, 1, none⟩ = some (.int .i64 H) ∧ z.cell? ⟨w.heap.size, 2, none⟩ = some (.slice a N cap) ∧ Gr w3 z) (first | exact ⟨c1, c2, c3, (Gr.refl _).drew⟩ | exact ⟨cell_gr hS.1 hg9, cell_gr hS.2.1 hg9, cell_gr hS.2.2.1 hg9, hS.2.2.2.trans hg9⟩) (first | (go_at_call_of 35 t2; have hS := ‹_ ∧ _ ∧ _ ∧ Gr w3 _›; refine (ropen_any W H _ N cap f t2 _ (HSr.out.gr (hd3.gr.trans hS.2.2.2))).mono ?_; rintro e w9 ⟨rfl, hg9⟩; rw [hb]) | (go_at_call 35; have hS := ‹_ ∧ _ ∧ _ ∧ Gr w3 _›; refine (ropen_any W H _ N cap f g _ (HSr.out.gr (hd3.gr.trans hS.2.2.2))).mono ?_; rintro e w9 ⟨rfl, hg9⟩; rw [ha]) | (go_at_call 36; have hS := ‹_ ∧ _ ∧ _ ∧ Gr w3 _›; refine (rover_any _ _ _ 1 _).mono ?_; rintro e w9 ⟨rfl, hd9⟩; rw [HTO.out]; have hg9 := hd9.gr))
            have hS9 := hd3.gr.trans (‹_ ∧ _ ∧ _ ∧ Gr w3 _›).2.2.2
            have HO2 := hide (own_grP HO.out hS9)
            have HR2 := hide (HR.out.trans hS9)
            obtain ⟨m, hm⟩ : ∃ m, curK (capB T o) k = m := ⟨_, rfl⟩
            have H1 := hide (cur_no ho)
            have ck := cur_le (capB T o) k
            have ce := end_len (capB T o) k
            rw [hm] at ck ce ⊢
            by_cases hm0 : m = 0
            · have H2 := hide ((end_no ho).trans (runs_new (hm.trans hm0)))
              subst hm0
              clear ho hm ce
              rw [show ((0 : Nat) : Int) = 0 from rfl]
              go_wp2_with fail
              go_roundw
              case rel => exact ⟨k + 1, by omega, by go_num, by rw [H1.out]; rfl, by rw [H2.out]; exact HO2.out, HR2.out⟩
              case measure => simp [intOf]; omega
            · have hr := runs_go (o := capB T o) (k := k) (by omega)
              rw [hm] at hr
              rw [if_neg hm0] at ce
              have H2 := hide ((end_no ho).trans hr)
              have hmI : 0 < (m : Int) := by omega
              clear ho hm hr
              go_wp2_with (at_builtin; refine wpList_append_own _ rfl _ _ 40 rfl w2.heap.size 53 i0 (.agg #[.int .i64 0, .int .i64 0]) 2 16 Try.underlying40 hi hz0 hz1 hz2 rfl (by decide) _ _ _ rfl (own_grP HO2.out ((Gr.refl _).alloc _)) ⟨_, 0, none⟩ 1 1 [.int .i64 ((k : Int) - m), .int .i64 m] rfl rfl (alloc_two _ _ _ _) (by simp [Value.oneCell']) (by unfold maxLen; omega) (by omega) (by have := HR2.out.size; simp only [World.size_alloc]; omega) ?_; intro v' w6 hown' hgrow hnil)
              go_roundw
              case rel => exact ⟨k + 1, by omega, by go_num, by rw [H1.out]; rfl, by rw [H2.out, List.length_append, flatP_app]; exact hown', Gr.grown (HR2.out.alloc _) hgrow (fun q e => (HO2.out.lt q e).1)⟩
              case measure => simp [intOf]; omega
          · have ho : capB T o k = true := by rw [cap_in hin, HPk.out, HTO.out, ha, hb]; rfl
            clear HPk
            go_wp2_with (go_at_call 41; refine (HC.out _).mono ?_; rintro e w3 ⟨rfl, hd3⟩; replace c1 := cell_gr c1 hd3.gr; replace c2 := cell_gr c2 hd3.gr; replace c3 := cell_gr c3 hd3.gr)
            go_region_held3 (fun z => z.cell? ⟨w.heap.size, 0, none⟩ = some (.int .i64 W) ∧ z.cell? ⟨w.heap.size, 1, none⟩ = some (.int .i64 H) ∧ z.cell? ⟨w.heap.size, 2, none⟩ = some (.slice a N cap) ∧ Gr w3 z) (first | exact ⟨c1, c2, c3, (Gr.refl _).drew⟩ | exact ⟨cell_gr hS.1 hg9, cell_gr hS.2.1 hg9, cell_gr hS.2.2.1 hg9, hS.2.2.2.trans hg9⟩) (first | (go_at_call_of 35 t2; have hS := ‹_ ∧ _ ∧ _ ∧ Gr w3 _›; refine (ropen_any W H _ N cap f t2 _ (HSr.out.gr (hd3.gr.trans hS.2.2.2))).mono ?_; rintro e w9 ⟨rfl, hg9⟩; rw [hb]) | (go_at_call 35; have hS := ‹_ ∧ _ ∧ _ ∧ Gr w3 _›; refine (ropen_any W H _ N cap f g _ (HSr.out.gr (hd3.gr.trans hS.2.2.2))).mono ?_; rintro e w9 ⟨rfl, hg9⟩; rw [ha]) | (go_at_call 36; have hS := ‹_ ∧ _ ∧ _ ∧ Gr w3 _›; refine (rover_any _ _ _ 1 _).mono ?_; rintro e w9 ⟨rfl, hd9⟩; rw [HTO.out]; have hg9 := hd9.gr))
            have hS9 := hd3.gr.trans (‹_ ∧ _ ∧ _ ∧ Gr w3 _›).2.2.2
            have HO2 := hide (own_grP HO.out hS9)
            have HR2 := hide (HR.out.trans hS9)
            have H1 := hide (cur_yes ho)
            have H2 := hide (end_yes ho)
            have ck := cur_le (capB T o) k
            clear ho
            go_wp2_with fail
            go_roundw
            case rel => exact ⟨k + 1, by omega, by go_num, by rw [H1.out]; rfl, by rw [H2.out]; exact HO2.out, HR2.out⟩
            case measure => simp [intOf]; omega
      · have hkT : k = T := by omega
        have hkL : ¬ (k : Int) < th := by have := HT.out; omega
        have ho : capB T o k = false := by rw [hkT]; exact cap_out T o
        have HO2 := hide HO.out
        have HR2 := hide HR.out
        clear hkT
        obtain ⟨m, hm⟩ : ∃ m, curK (capB T o) k = m := ⟨_, rfl⟩
        have H1 := hide (cur_no ho)
        have ck := cur_le (capB T o) k
        have ce := end_len (capB T o) k
        rw [hm] at ck ce ⊢
        by_cases hm0 : m = 0
        · have H2 := hide ((end_no ho).trans (runs_new (hm.trans hm0)))
          subst hm0
          clear ho hm ce
          rw [show ((0 : Nat) : Int) = 0 from rfl]
          go_wp2_with fail
          go_roundw
          case rel => exact ⟨k + 1, by omega, by go_num, by rw [H1.out]; rfl, by rw [H2.out]; exact HO2.out, HR2.out⟩
          case measure => simp [intOf]; omega
        · have hr := runs_go (o := capB T o) (k := k) (by omega)
          rw [hm] at hr
          rw [if_neg hm0] at ce
          have H2 := hide ((end_no ho).trans hr)
          have hmI : 0 < (m : Int) := by omega
          clear ho hm hr
          go_wp2_with (at_builtin; refine wpList_append_own _ rfl _ _ 40 rfl w2.heap.size 53 i0 (.agg #[.int .i64 0, .int .i64 0]) 2 16 Try.underlying40 hi hz0 hz1 hz2 rfl (by decide) _ _ _ rfl (own_grP HO2.out ((Gr.refl _).alloc _)) ⟨_, 0, none⟩ 1 1 [.int .i64 ((k : Int) - m), .int .i64 m] rfl rfl (alloc_two _ _ _ _) (by simp [Value.oneCell']) (by unfold maxLen; omega) (by omega) (by have := HR2.out.size; simp only [World.size_alloc]; omega) ?_; intro v' w6 hown' hgrow hnil)
          go_roundw
          case rel => exact ⟨k + 1, by omega, by go_num, by rw [H1.out]; rfl, by rw [H2.out, List.length_append, flatP_app]; exact hown', Gr.grown (HR2.out.alloc _) hgrow (fun q e => (HO2.out.lt q e).1)⟩
          case measure => simp [intOf]; omega
    · have hkn : k = T + 1 := by omega
      have hkI : ¬ (k : Int) ≤ th := by have := HT.out; omega
      subst hkn
      go_wp2
      go_ret
      exact ⟨⟨_, rfl, ownP_base hown HR0.out.size⟩, HR0.out.trans hgr⟩
end Go.Proofs.Ytanihjgpdfploaa
