/- TallyOrder's walk: one is below another one just if each of its counts is. No condition. -/
import Derived.Test.YtkekljlkgnfofaaYEq
import Derived.Test.YtkekljlkgnfofaaTRow6
import Derived.Deep.CutRange
namespace Go.Proofs.Ytkekljlkgnfofaa
open Go.RowKit

theorem below_both (f h : Nat → Int) : (belowB f h && belowB h f) = eqB f h := by
  rw [Bool.eq_iff_iff]
  simp only [belowB, eqB, Bool.and_eq_true, decide_eq_true_eq, beq_iff_eq]
  omega
theorem below_self (f : Nat → Int) : belowB f f = true := (belowB_iff f f).2 fun _ _ => Int.le_refl _

set_option maxHeartbeats 8000000 in
set_option maxRecDepth 20000 in
theorem tallyOrder_any (f g : Nat → Int) (x y : Int) (one : Bool) (w : World) :
    Calls Try.prog 5 #[.agg #[.int .u64 (f 0), .int .u64 (f 1), .int .u64 (f 2), .int .u64 (f 3), .int .u64 (f 4), .int .u64 (f 5)], .agg #[.int .u64 (g 0), .int .u64 (g 1), .int .u64 (g 2), .int .u64 (g 3), .int .u64 (g 4), .int .u64 (g 5)], .int .i64 x, .int .u64 y, .bool one] w fun e w' => e = .returned (.bool true) ∧ Gr w w' := by
  go_enter Try.func5, Try.ntmps5
  go_upto_if 12 with fail
  go_cut [12] from 13 to 55 (fun _ u => ∃ h : Nat → Int, u = ((w.alloc (.cells #[.int .u64 (f 0), .int .u64 (f 1), .int .u64 (f 2), .int .u64 (f 3), .int .u64 (f 4), .int .u64 (f 5)] 27)).alloc (.cells #[.int .u64 (h 0), .int .u64 (h 1), .int .u64 (h 2), .int .u64 (h 3), .int .u64 (h 4), .int .u64 (h 5)] 27)))
  case first =>
    cases one
    · go_wp2_with fail
      go_meet
      case rel => exact ⟨g, rfl⟩
    · obtain ⟨v, hv⟩ : ∃ v, v = bits .and .i64 x 7 := ⟨_, rfl⟩
      have hv' := hv.symm
      clear hv
      by_cases v0 : v = 0
      · subst v0
        go_wp2_with fail
        go_meet
        case rel => exact ⟨six (bits .xor .u64 (f 0) y) (f 1) (f 2) (f 3) (f 4) (f 5), rfl⟩
      by_cases v1 : v = 1
      · subst v1
        go_wp2_with fail
        go_meet
        case rel => exact ⟨six (f 0) (bits .xor .u64 (f 1) y) (f 2) (f 3) (f 4) (f 5), rfl⟩
      by_cases v2 : v = 2
      · subst v2
        go_wp2_with fail
        go_meet
        case rel => exact ⟨six (f 0) (f 1) (bits .xor .u64 (f 2) y) (f 3) (f 4) (f 5), rfl⟩
      by_cases v3 : v = 3
      · subst v3
        go_wp2_with fail
        go_meet
        case rel => exact ⟨six (f 0) (f 1) (f 2) (bits .xor .u64 (f 3) y) (f 4) (f 5), rfl⟩
      by_cases v4 : v = 4
      · subst v4
        go_wp2_with fail
        go_meet
        case rel => exact ⟨six (f 0) (f 1) (f 2) (f 3) (bits .xor .u64 (f 4) y) (f 5), rfl⟩
      go_wp2_with fail
      go_meet
      case rel => exact ⟨six (f 0) (f 1) (f 2) (f 3) (f 4) (bits .xor .u64 (f 5) y), rfl⟩
  case rest =>
    obtain ⟨h, rfl⟩ := hcut
    go_upto_region 15 with fail
    go_cut [11] from 56 to 95 (fun s u => s = .bool (belowB f h) ∧ u = ((w.alloc (.cells #[.int .u64 (f 0), .int .u64 (f 1), .int .u64 (f 2), .int .u64 (f 3), .int .u64 (f 4), .int .u64 (f 5)] 27)).alloc (.cells #[.int .u64 (h 0), .int .u64 (h 1), .int .u64 (h 2), .int .u64 (h 3), .int .u64 (h 4), .int .u64 (h 5)] 27)))
    case first =>
      go_wp2_with fail
      all_goals
        go_meet
        case rel => exact ⟨congrArg Value.bool (by unfold belowB; first | exact (decide_eq_false (by omega)).symm | exact decide_eq_decide.2 (by omega)), rfl⟩
    case rest =>
      obtain ⟨rfl, rfl⟩ := hcut
      have c : ((w.alloc (.cells #[.int .u64 (f 0), .int .u64 (f 1), .int .u64 (f 2), .int .u64 (f 3), .int .u64 (f 4), .int .u64 (f 5)] 27)).alloc (.cells #[.int .u64 (h 0), .int .u64 (h 1), .int .u64 (h 2), .int .u64 (h 3), .int .u64 (h 4), .int .u64 (h 5)] 27)).cell? ⟨w.heap.size, 0, none⟩ = some (.int .u64 (f 0)) ∧ ((w.alloc (.cells #[.int .u64 (f 0), .int .u64 (f 1), .int .u64 (f 2), .int .u64 (f 3), .int .u64 (f 4), .int .u64 (f 5)] 27)).alloc (.cells #[.int .u64 (h 0), .int .u64 (h 1), .int .u64 (h 2), .int .u64 (h 3), .int .u64 (h 4), .int .u64 (h 5)] 27)).cell? ⟨w.heap.size, 1, none⟩ = some (.int .u64 (f 1)) ∧ ((w.alloc (.cells #[.int .u64 (f 0), .int .u64 (f 1), .int .u64 (f 2), .int .u64 (f 3), .int .u64 (f 4), .int .u64 (f 5)] 27)).alloc (.cells #[.int .u64 (h 0), .int .u64 (h 1), .int .u64 (h 2), .int .u64 (h 3), .int .u64 (h 4), .int .u64 (h 5)] 27)).cell? ⟨w.heap.size, 2, none⟩ = some (.int .u64 (f 2)) ∧ ((w.alloc (.cells #[.int .u64 (f 0), .int .u64 (f 1), .int .u64 (f 2), .int .u64 (f 3), .int .u64 (f 4), .int .u64 (f 5)] 27)).alloc (.cells #[.int .u64 (h 0), .int .u64 (h 1), .int .u64 (h 2), .int .u64 (h 3), .int .u64 (h 4), .int .u64 (h 5)] 27)).cell? ⟨w.heap.size, 3, none⟩ = some (.int .u64 (f 3)) ∧ ((w.alloc (.cells #[.int .u64 (f 0), .int .u64 (f 1), .int .u64 (f 2), .int .u64 (f 3), .int .u64 (f 4), .int .u64 (f 5)] 27)).alloc (.cells #[.int .u64 (h 0), .int .u64 (h 1), .int .u64 (h 2), .int .u64 (h 3), .int .u64 (h 4), .int .u64 (h 5)] 27)).cell? ⟨w.heap.size, 4, none⟩ = some (.int .u64 (f 4)) ∧ ((w.alloc (.cells #[.int .u64 (f 0), .int .u64 (f 1), .int .u64 (f 2), .int .u64 (f 3), .int .u64 (f 4), .int .u64 (f 5)] 27)).alloc (.cells #[.int .u64 (h 0), .int .u64 (h 1), .int .u64 (h 2), .int .u64 (h 3), .int .u64 (h 4), .int .u64 (h 5)] 27)).cell? ⟨w.heap.size, 5, none⟩ = some (.int .u64 (f 5)) := by
        refine ⟨?_, ?_, ?_, ?_, ?_, ?_⟩ <;> simp [go_sem]
      have d : ((w.alloc (.cells #[.int .u64 (f 0), .int .u64 (f 1), .int .u64 (f 2), .int .u64 (f 3), .int .u64 (f 4), .int .u64 (f 5)] 27)).alloc (.cells #[.int .u64 (h 0), .int .u64 (h 1), .int .u64 (h 2), .int .u64 (h 3), .int .u64 (h 4), .int .u64 (h 5)] 27)).cell? ⟨(w.heap.size + 1), 0, none⟩ = some (.int .u64 (h 0)) ∧ ((w.alloc (.cells #[.int .u64 (f 0), .int .u64 (f 1), .int .u64 (f 2), .int .u64 (f 3), .int .u64 (f 4), .int .u64 (f 5)] 27)).alloc (.cells #[.int .u64 (h 0), .int .u64 (h 1), .int .u64 (h 2), .int .u64 (h 3), .int .u64 (h 4), .int .u64 (h 5)] 27)).cell? ⟨(w.heap.size + 1), 1, none⟩ = some (.int .u64 (h 1)) ∧ ((w.alloc (.cells #[.int .u64 (f 0), .int .u64 (f 1), .int .u64 (f 2), .int .u64 (f 3), .int .u64 (f 4), .int .u64 (f 5)] 27)).alloc (.cells #[.int .u64 (h 0), .int .u64 (h 1), .int .u64 (h 2), .int .u64 (h 3), .int .u64 (h 4), .int .u64 (h 5)] 27)).cell? ⟨(w.heap.size + 1), 2, none⟩ = some (.int .u64 (h 2)) ∧ ((w.alloc (.cells #[.int .u64 (f 0), .int .u64 (f 1), .int .u64 (f 2), .int .u64 (f 3), .int .u64 (f 4), .int .u64 (f 5)] 27)).alloc (.cells #[.int .u64 (h 0), .int .u64 (h 1), .int .u64 (h 2), .int .u64 (h 3), .int .u64 (h 4), .int .u64 (h 5)] 27)).cell? ⟨(w.heap.size + 1), 3, none⟩ = some (.int .u64 (h 3)) ∧ ((w.alloc (.cells #[.int .u64 (f 0), .int .u64 (f 1), .int .u64 (f 2), .int .u64 (f 3), .int .u64 (f 4), .int .u64 (f 5)] 27)).alloc (.cells #[.int .u64 (h 0), .int .u64 (h 1), .int .u64 (h 2), .int .u64 (h 3), .int .u64 (h 4), .int .u64 (h 5)] 27)).cell? ⟨(w.heap.size + 1), 4, none⟩ = some (.int .u64 (h 4)) ∧ ((w.alloc (.cells #[.int .u64 (f 0), .int .u64 (f 1), .int .u64 (f 2), .int .u64 (f 3), .int .u64 (f 4), .int .u64 (f 5)] 27)).alloc (.cells #[.int .u64 (h 0), .int .u64 (h 1), .int .u64 (h 2), .int .u64 (h 3), .int .u64 (h 4), .int .u64 (h 5)] 27)).cell? ⟨(w.heap.size + 1), 5, none⟩ = some (.int .u64 (h 5)) := by
        refine ⟨?_, ?_, ?_, ?_, ?_, ?_⟩ <;> simp [go_sem]
      have hw : Gr w ((w.alloc (.cells #[.int .u64 (f 0), .int .u64 (f 1), .int .u64 (f 2), .int .u64 (f 3), .int .u64 (f 4), .int .u64 (f 5)] 27)).alloc (.cells #[.int .u64 (h 0), .int .u64 (h 1), .int .u64 (h 2), .int .u64 (h 3), .int .u64 (h 4), .int .u64 (h 5)] 27)) := ((Gr.refl w).alloc _).alloc _
      have B1 := hide (below_any f h)
      have B2 := hide (below_any h f)
      have B3 := hide (below_any f f)
      have E := below_both f h
      rw [below_self f] at B3
      generalize ((w.alloc (.cells #[.int .u64 (f 0), .int .u64 (f 1), .int .u64 (f 2), .int .u64 (f 3), .int .u64 (f 4), .int .u64 (f 5)] 27)).alloc (.cells #[.int .u64 (h 0), .int .u64 (h 1), .int .u64 (h 2), .int .u64 (h 3), .int .u64 (h 4), .int .u64 (h 5)] 27)) = w2 at *
      generalize w.heap.size = B0 at *
      have KK : Hid (∀ u, Gr w2 u → Gr w2 u ∧ u.cell? ⟨B0, 0, none⟩ = some (.int .u64 (f 0)) ∧ u.cell? ⟨B0, 1, none⟩ = some (.int .u64 (f 1)) ∧ u.cell? ⟨B0, 2, none⟩ = some (.int .u64 (f 2)) ∧ u.cell? ⟨B0, 3, none⟩ = some (.int .u64 (f 3)) ∧ u.cell? ⟨B0, 4, none⟩ = some (.int .u64 (f 4)) ∧ u.cell? ⟨B0, 5, none⟩ = some (.int .u64 (f 5)) ∧ u.cell? ⟨(B0 + 1), 0, none⟩ = some (.int .u64 (h 0)) ∧ u.cell? ⟨(B0 + 1), 1, none⟩ = some (.int .u64 (h 1)) ∧ u.cell? ⟨(B0 + 1), 2, none⟩ = some (.int .u64 (h 2)) ∧ u.cell? ⟨(B0 + 1), 3, none⟩ = some (.int .u64 (h 3)) ∧ u.cell? ⟨(B0 + 1), 4, none⟩ = some (.int .u64 (h 4)) ∧ u.cell? ⟨(B0 + 1), 5, none⟩ = some (.int .u64 (h 5))) := by
        obtain ⟨c0, c1, c2, c3, c4, c5⟩ := c
        obtain ⟨d0, d1, d2, d3, d4, d5⟩ := d
        exact hide (fun u h => ⟨h, cell_gr6 c0 h, cell_gr6 c1 h, cell_gr6 c2 h, cell_gr6 c3 h, cell_gr6 c4 h, cell_gr6 c5 h, cell_gr6 d0 h, cell_gr6 d1 h, cell_gr6 d2 h, cell_gr6 d3 h, cell_gr6 d4 h, cell_gr6 d5 h⟩)
      clear c d
      have Q := eq6 f h
      cases hb : belowB f h
      · rw [hb] at B1 E
        rw [Bool.false_and] at E
        rw [← E] at Q
        clear E B2
        go_wp2_with fail
        refine wp_region_held_drew (S := (fun u => Gr w2 u ∧ u.cell? ⟨B0, 0, none⟩ = some (.int .u64 (f 0)) ∧ u.cell? ⟨B0, 1, none⟩ = some (.int .u64 (f 1)) ∧ u.cell? ⟨B0, 2, none⟩ = some (.int .u64 (f 2)) ∧ u.cell? ⟨B0, 3, none⟩ = some (.int .u64 (f 3)) ∧ u.cell? ⟨B0, 4, none⟩ = some (.int .u64 (f 4)) ∧ u.cell? ⟨B0, 5, none⟩ = some (.int .u64 (f 5)) ∧ u.cell? ⟨(B0 + 1), 0, none⟩ = some (.int .u64 (h 0)) ∧ u.cell? ⟨(B0 + 1), 1, none⟩ = some (.int .u64 (h 1)) ∧ u.cell? ⟨(B0 + 1), 2, none⟩ = some (.int .u64 (h 2)) ∧ u.cell? ⟨(B0 + 1), 3, none⟩ = some (.int .u64 (h 3)) ∧ u.cell? ⟨(B0 + 1), 4, none⟩ = some (.int .u64 (h 4)) ∧ u.cell? ⟨(B0 + 1), 5, none⟩ = some (.int .u64 (h 5)))) (by kernel_rfl) (KK.out _ ((Gr.refl _).drew)) (fun hHeld => ?_)
        refine wpAnyH_ready (rs := [0]) (by kernel_rfl) (by simp) ?_
        refine AllReadyH.cons (o := { dst := some 96, op := Op.call { callee := Callee.value (Operand.func 9), args := #[], argTypes := #[] }, type := 4, pos := "law.go:47", after := #[], guard := none }) rfl (fun K hK => ?_) AllReadyH.nil
        go_simp
        refine (told_any _).mono ?_
        rintro e w9 ⟨rfl, rfl⟩
        go_wp2_with fail
        refine Shut.out hK _ _ ?_ (fun hHeld => ?_)
        · first | (with_reducible assumption) | exact KK.out _ hG
        clear hK K
        try simp only [Act.put, List.setIfInBounds_toArray, List.set_cons_zero, List.set_cons_succ]
        refine wpAnyH_take (i := 1) (oi := { dst := some 97, op := Op.move (Operand.tmp 96), type := 4, pos := "law.go:47", after := #[{ on := 0, ground := Ground.data }, { on := 0, ground := Ground.chain }], guard := none }) (v := ?_) rfl (by kernel_rfl) (by kernel_rfl) (by kernel_rfl) (fun _ _ _ h => h) (Or.inl ⟨by rfl, ?_⟩) (by assumption) ?_
        rotate_left
        · intro w hSw
          try dsimp only at hSw
          go_simp
          try with_reducible rfl
        try simp only [Act.put, List.setIfInBounds_toArray, List.set_cons_zero, List.set_cons_succ]
        refine wpAnyH_take (i := 2) (oi := { dst := some 98, op := Op.load 27 (Operand.tmp 5), type := 27, pos := "law.go:47", after := #[{ on := 1, ground := Ground.guard }], guard := some (1, true) }) (v := ?_) rfl (by kernel_rfl) (by kernel_rfl) (by kernel_rfl) (fun _ _ _ h => h) (Or.inl ⟨by rfl, ?_⟩) (by assumption) ?_
        rotate_left
        · intro w hSw
          try dsimp only at hSw
          go_simp
          try with_reducible rfl
        try simp only [Act.put, List.setIfInBounds_toArray, List.set_cons_zero, List.set_cons_succ]
        refine wpAnyH_take (i := 3) (oi := { dst := some 99, op := Op.load 27 (Operand.tmp 6), type := 27, pos := "law.go:47", after := #[{ on := 1, ground := Ground.guard }], guard := some (1, true) }) (v := ?_) rfl (by kernel_rfl) (by kernel_rfl) (by kernel_rfl) (fun _ _ _ h => h) (Or.inl ⟨by rfl, ?_⟩) (by assumption) ?_
        rotate_left
        · intro w hSw
          try dsimp only at hSw
          go_simp
          try with_reducible rfl
        try simp only [Act.put, List.setIfInBounds_toArray, List.set_cons_zero, List.set_cons_succ]
        refine wpAnyH_take (i := 5) (oi := { dst := some 101, op := Op.move (Operand.tmp 11), type := 4, pos := "law.go:47", after := #[{ on := 1, ground := Ground.guard }], guard := some (1, true) }) (v := ?_) rfl (by kernel_rfl) (by kernel_rfl) (by kernel_rfl) (fun _ _ _ h => h) (Or.inl ⟨by rfl, ?_⟩) (by assumption) ?_
        rotate_left
        · intro w hSw
          try dsimp only at hSw
          go_simp
          try with_reducible rfl
        try simp only [Act.put, List.setIfInBounds_toArray, List.set_cons_zero, List.set_cons_succ]
        refine wpAnyH_ready (rs := [4]) (by kernel_rfl) (by simp) ?_
        refine AllReadyH.cons (o := { dst := some 100, op := Op.call { callee := Callee.value (Operand.func 11), args := #[Operand.tmp 98, Operand.tmp 99], argTypes := #[27, 27] }, type := 4, pos := "law.go:47", after := #[{ on := 2, ground := Ground.data }, { on := 3, ground := Ground.data }, { on := 1, ground := Ground.chain }, { on := 1, ground := Ground.guard }], guard := some (1, true) }) rfl (fun K hK => ?_) AllReadyH.nil
        go_simp
        have hS := (‹Gr w2 _ ∧ _›).1
        refine (B1.out _).mono ?_
        rintro e w9 ⟨rfl, hg9⟩
        have hG := hS.trans hg9
        go_wp2_with fail
        refine Shut.out hK _ _ ?_ (fun hHeld => ?_)
        · first | (with_reducible assumption) | exact KK.out _ hG
        clear hK K
        try simp only [Act.put, List.setIfInBounds_toArray, List.set_cons_zero, List.set_cons_succ]
        refine wpAnyH_take (i := 6) (oi := { dst := some 102, op := Op.binOp BinOp.eql 4 (Operand.tmp 100) (Operand.tmp 101) 4, type := 4, pos := "law.go:47", after := #[{ on := 4, ground := Ground.data }, { on := 5, ground := Ground.data }, { on := 1, ground := Ground.guard }], guard := some (1, true) }) (v := ?_) rfl (by kernel_rfl) (by kernel_rfl) (by kernel_rfl) (fun _ _ _ h => h) (Or.inl ⟨by rfl, ?_⟩) (by assumption) ?_
        rotate_left
        · intro w hSw
          try dsimp only at hSw
          go_simp
          try with_reducible rfl
        try simp only [Act.put, List.setIfInBounds_toArray, List.set_cons_zero, List.set_cons_succ]
        refine wpAnyH_take (i := 7) (oi := { dst := some 103, op := Op.pick (Operand.tmp 97) (Operand.tmp 102) (Operand.const (Value.bool false)), type := 4, pos := "law.go:47", after := #[{ on := 1, ground := Ground.data }, { on := 6, ground := Ground.data }], guard := none }) (v := ?_) rfl (by kernel_rfl) (by kernel_rfl) (by kernel_rfl) (fun _ _ _ h => h) (Or.inl ⟨by rfl, ?_⟩) (by assumption) ?_
        rotate_left
        · intro w hSw
          try dsimp only at hSw
          go_simp
          try with_reducible rfl
        try simp only [Act.put, List.setIfInBounds_toArray, List.set_cons_zero, List.set_cons_succ]
        refine wpAnyH_take (i := 8) (oi := { dst := some 104, op := Op.move (Operand.tmp 103), type := 4, pos := "law.go:47", after := #[{ on := 7, ground := Ground.data }, { on := 4, ground := Ground.chain }], guard := none }) (v := ?_) rfl (by kernel_rfl) (by kernel_rfl) (by kernel_rfl) (fun _ _ _ h => h) (Or.inl ⟨by rfl, ?_⟩) (by assumption) ?_
        rotate_left
        · intro w hSw
          try dsimp only at hSw
          go_simp
          try with_reducible rfl
        try simp only [Act.put, List.setIfInBounds_toArray, List.set_cons_zero, List.set_cons_succ]
        refine wpAnyH_take (i := 9) (oi := { dst := some 105, op := Op.load 27 (Operand.tmp 5), type := 27, pos := "law.go:47", after := #[{ on := 8, ground := Ground.guard }], guard := some (8, true) }) (v := ?_) rfl (by kernel_rfl) (by kernel_rfl) (by kernel_rfl) (fun _ _ _ h => h) (Or.inl ⟨by rfl, ?_⟩) (by assumption) ?_
        rotate_left
        · intro w hSw
          try dsimp only at hSw
          go_simp
          try with_reducible rfl
        try simp only [Act.put, List.setIfInBounds_toArray, List.set_cons_zero, List.set_cons_succ]
        refine wpAnyH_take (i := 10) (oi := { dst := some 106, op := Op.load 27 (Operand.tmp 6), type := 27, pos := "law.go:47", after := #[{ on := 8, ground := Ground.guard }], guard := some (8, true) }) (v := ?_) rfl (by kernel_rfl) (by kernel_rfl) (by kernel_rfl) (fun _ _ _ h => h) (Or.inl ⟨by rfl, ?_⟩) (by assumption) ?_
        rotate_left
        · intro w hSw
          try dsimp only at hSw
          go_simp
          try with_reducible rfl
        try simp only [Act.put, List.setIfInBounds_toArray, List.set_cons_zero, List.set_cons_succ]
        refine wpAnyH_take (i := 17) (oi := { dst := some 113, op := Op.load 27 (Operand.tmp 5), type := 27, pos := "law.go:47", after := #[{ on := 8, ground := Ground.guard }], guard := some (8, true) }) (v := ?_) rfl (by kernel_rfl) (by kernel_rfl) (by kernel_rfl) (fun _ _ _ h => h) (Or.inl ⟨by rfl, ?_⟩) (by assumption) ?_
        rotate_left
        · intro w hSw
          try dsimp only at hSw
          go_simp
          try with_reducible rfl
        try simp only [Act.put, List.setIfInBounds_toArray, List.set_cons_zero, List.set_cons_succ]
        refine wpAnyH_take (i := 18) (oi := { dst := some 114, op := Op.load 27 (Operand.tmp 6), type := 27, pos := "law.go:47", after := #[{ on := 8, ground := Ground.guard }], guard := some (8, true) }) (v := ?_) rfl (by kernel_rfl) (by kernel_rfl) (by kernel_rfl) (fun _ _ _ h => h) (Or.inl ⟨by rfl, ?_⟩) (by assumption) ?_
        rotate_left
        · intro w hSw
          try dsimp only at hSw
          go_simp
          try with_reducible rfl
        try simp only [Act.put, List.setIfInBounds_toArray, List.set_cons_zero, List.set_cons_succ]
        refine wpAnyH_take (i := 19) (oi := { dst := some 115, op := Op.binOp BinOp.eql 27 (Operand.tmp 113) (Operand.tmp 114) 27, type := 4, pos := "law.go:47", after := #[{ on := 17, ground := Ground.data }, { on := 18, ground := Ground.data }, { on := 8, ground := Ground.guard }], guard := some (8, true) }) (v := ?_) rfl (by kernel_rfl) (by kernel_rfl) (by kernel_rfl) (fun _ _ _ h => h) (Or.inl ⟨by rfl, ?_⟩) (by assumption) ?_
        rotate_left
        · intro w hSw
          try dsimp only at hSw
          go_simp
          try with_reducible rfl
        try simp only [Act.put, List.setIfInBounds_toArray, List.set_cons_zero, List.set_cons_succ]
        refine wpAnyH_ready (rs := [11]) (by kernel_rfl) (by simp) ?_
        refine AllReadyH.cons (o := { dst := some 107, op := Op.call { callee := Callee.value (Operand.func 11), args := #[Operand.tmp 105, Operand.tmp 106], argTypes := #[27, 27] }, type := 4, pos := "law.go:47", after := #[{ on := 9, ground := Ground.data }, { on := 10, ground := Ground.data }, { on := 8, ground := Ground.chain }, { on := 8, ground := Ground.guard }], guard := some (8, true) }) rfl (fun K hK => ?_) AllReadyH.nil
        go_simp
        have hS := (‹Gr w2 _ ∧ _›).1
        refine (B1.out _).mono ?_
        rintro e w9 ⟨rfl, hg9⟩
        have hG := hS.trans hg9
        go_wp2_with fail
        refine Shut.out hK _ _ ?_ (fun hHeld => ?_)
        · first | (with_reducible assumption) | exact KK.out _ hG
        clear hK K
        try simp only [Act.put, List.setIfInBounds_toArray, List.set_cons_zero, List.set_cons_succ]
        refine wpAnyH_take (i := 12) (oi := { dst := some 108, op := Op.move (Operand.tmp 107), type := 4, pos := "law.go:47", after := #[{ on := 11, ground := Ground.data }, { on := 11, ground := Ground.chain }, { on := 8, ground := Ground.guard }], guard := some (8, true) }) (v := ?_) rfl (by kernel_rfl) (by kernel_rfl) (by kernel_rfl) (fun _ _ _ h => h) (Or.inl ⟨by rfl, ?_⟩) (by assumption) ?_
        rotate_left
        · intro w hSw
          try dsimp only at hSw
          go_simp
          try with_reducible rfl
        try simp only [Act.put, List.setIfInBounds_toArray, List.set_cons_zero, List.set_cons_succ]
        refine wpAnyH_take (i := 13) (oi := { dst := some 109, op := Op.load 27 (Operand.tmp 6), type := 27, pos := "law.go:47", after := #[{ on := 12, ground := Ground.guard }], guard := some (12, true) }) (v := undef) rfl (by kernel_rfl) (by kernel_rfl) (by kernel_rfl) (fun _ _ _ h => h) (Or.inr ⟨by rfl, rfl⟩) (by assumption) ?_
        try simp only [Act.put, List.setIfInBounds_toArray, List.set_cons_zero, List.set_cons_succ]
        refine wpAnyH_take (i := 14) (oi := { dst := some 110, op := Op.load 27 (Operand.tmp 5), type := 27, pos := "law.go:47", after := #[{ on := 12, ground := Ground.guard }], guard := some (12, true) }) (v := undef) rfl (by kernel_rfl) (by kernel_rfl) (by kernel_rfl) (fun _ _ _ h => h) (Or.inr ⟨by rfl, rfl⟩) (by assumption) ?_
        try simp only [Act.put, List.setIfInBounds_toArray, List.set_cons_zero, List.set_cons_succ]
        refine wpAnyH_take (i := 15) (oi := { dst := some 111, op := Op.call { callee := Callee.value (Operand.func 11), args := #[Operand.tmp 109, Operand.tmp 110], argTypes := #[27, 27] }, type := 4, pos := "law.go:47", after := #[{ on := 13, ground := Ground.data }, { on := 14, ground := Ground.data }, { on := 12, ground := Ground.chain }, { on := 12, ground := Ground.guard }], guard := some (12, true) }) (v := undef) rfl (by kernel_rfl) (by kernel_rfl) (by kernel_rfl) (fun _ _ _ h => h) (Or.inr ⟨by rfl, rfl⟩) (by assumption) ?_
        try simp only [Act.put, List.setIfInBounds_toArray, List.set_cons_zero, List.set_cons_succ]
        refine wpAnyH_take (i := 16) (oi := { dst := some 112, op := Op.pick (Operand.tmp 108) (Operand.tmp 111) (Operand.const (Value.bool false)), type := 4, pos := "law.go:47", after := #[{ on := 12, ground := Ground.data }, { on := 15, ground := Ground.data }, { on := 8, ground := Ground.guard }], guard := some (8, true) }) (v := ?_) rfl (by kernel_rfl) (by kernel_rfl) (by kernel_rfl) (fun _ _ _ h => h) (Or.inl ⟨by rfl, ?_⟩) (by assumption) ?_
        rotate_left
        · intro w hSw
          try dsimp only at hSw
          go_simp
          try with_reducible rfl
        try simp only [Act.put, List.setIfInBounds_toArray, List.set_cons_zero, List.set_cons_succ]
        refine wpAnyH_take (i := 20) (oi := { dst := some 116, op := Op.binOp BinOp.eql 4 (Operand.tmp 112) (Operand.tmp 115) 4, type := 4, pos := "law.go:47", after := #[{ on := 16, ground := Ground.data }, { on := 19, ground := Ground.data }, { on := 8, ground := Ground.guard }], guard := some (8, true) }) (v := ?_) rfl (by kernel_rfl) (by kernel_rfl) (by kernel_rfl) (fun _ _ _ h => h) (Or.inl ⟨by rfl, ?_⟩) (by assumption) ?_
        rotate_left
        · intro w hSw
          try dsimp only at hSw
          go_simp
          try with_reducible rfl
        try simp only [Act.put, List.setIfInBounds_toArray, List.set_cons_zero, List.set_cons_succ]
        refine wpAnyH_take (i := 21) (oi := { dst := some 117, op := Op.pick (Operand.tmp 104) (Operand.tmp 116) (Operand.const (Value.bool false)), type := 4, pos := "law.go:47", after := #[{ on := 8, ground := Ground.data }, { on := 20, ground := Ground.data }], guard := none }) (v := ?_) rfl (by kernel_rfl) (by kernel_rfl) (by kernel_rfl) (fun _ _ _ h => h) (Or.inl ⟨by rfl, ?_⟩) (by assumption) ?_
        rotate_left
        · intro w hSw
          try dsimp only at hSw
          go_simp
          try with_reducible rfl
        try simp only [Act.put, List.setIfInBounds_toArray, List.set_cons_zero, List.set_cons_succ]
        refine wpAnyH_take (i := 22) (oi := { dst := some 118, op := Op.move (Operand.tmp 117), type := 4, pos := "law.go:47", after := #[{ on := 21, ground := Ground.data }, { on := 15, ground := Ground.chain }], guard := none }) (v := ?_) rfl (by kernel_rfl) (by kernel_rfl) (by kernel_rfl) (fun _ _ _ h => h) (Or.inl ⟨by rfl, ?_⟩) (by assumption) ?_
        rotate_left
        · intro w hSw
          try dsimp only at hSw
          go_simp
          try with_reducible rfl
        try simp only [Act.put, List.setIfInBounds_toArray, List.set_cons_zero, List.set_cons_succ]
        refine wpAnyH_take (i := 23) (oi := { dst := some 119, op := Op.load 27 (Operand.tmp 5), type := 27, pos := "law.go:47", after := #[{ on := 22, ground := Ground.guard }], guard := some (22, true) }) (v := ?_) rfl (by kernel_rfl) (by kernel_rfl) (by kernel_rfl) (fun _ _ _ h => h) (Or.inl ⟨by rfl, ?_⟩) (by assumption) ?_
        rotate_left
        · intro w hSw
          try dsimp only at hSw
          go_simp
          try with_reducible rfl
        try simp only [Act.put, List.setIfInBounds_toArray, List.set_cons_zero, List.set_cons_succ]
        refine wpAnyH_take (i := 24) (oi := { dst := some 120, op := Op.load 27 (Operand.tmp 5), type := 27, pos := "law.go:47", after := #[{ on := 22, ground := Ground.guard }], guard := some (22, true) }) (v := ?_) rfl (by kernel_rfl) (by kernel_rfl) (by kernel_rfl) (fun _ _ _ h => h) (Or.inl ⟨by rfl, ?_⟩) (by assumption) ?_
        rotate_left
        · intro w hSw
          try dsimp only at hSw
          go_simp
          try with_reducible rfl
        try simp only [Act.put, List.setIfInBounds_toArray, List.set_cons_zero, List.set_cons_succ]
        refine wpAnyH_ready (rs := [25]) (by kernel_rfl) (by simp) ?_
        refine AllReadyH.cons (o := { dst := some 121, op := Op.call { callee := Callee.value (Operand.func 11), args := #[Operand.tmp 119, Operand.tmp 120], argTypes := #[27, 27] }, type := 4, pos := "law.go:47", after := #[{ on := 23, ground := Ground.data }, { on := 24, ground := Ground.data }, { on := 22, ground := Ground.chain }, { on := 22, ground := Ground.guard }], guard := some (22, true) }) rfl (fun K hK => ?_) AllReadyH.nil
        go_simp
        have hS := (‹Gr w2 _ ∧ _›).1
        refine (B3.out _).mono ?_
        rintro e w9 ⟨rfl, hg9⟩
        have hG := hS.trans hg9
        go_wp2_with fail
        refine Shut.out hK _ _ ?_ (fun hHeld => ?_)
        · first | (with_reducible assumption) | exact KK.out _ hG
        clear hK K
        try simp only [Act.put, List.setIfInBounds_toArray, List.set_cons_zero, List.set_cons_succ]
        refine wpAnyH_take (i := 26) (oi := { dst := some 122, op := Op.pick (Operand.tmp 118) (Operand.tmp 121) (Operand.const (Value.bool false)), type := 4, pos := "law.go:47", after := #[{ on := 22, ground := Ground.data }, { on := 25, ground := Ground.data }], guard := none }) (v := ?_) rfl (by kernel_rfl) (by kernel_rfl) (by kernel_rfl) (fun _ _ _ h => h) (Or.inl ⟨by rfl, ?_⟩) (by assumption) ?_
        rotate_left
        · intro w hSw
          try dsimp only at hSw
          go_simp
          try with_reducible rfl
        try simp only [Act.put, List.setIfInBounds_toArray, List.set_cons_zero, List.set_cons_succ]
        refine wpAnyH_take (i := 27) (oi := { dst := some 10, op := Op.assign (Operand.tmp 122), type := 4, pos := "law.go:47", after := #[{ on := 26, ground := Ground.data }, { on := 25, ground := Ground.chain }, { on := 0, ground := Ground.phase }, { on := 1, ground := Ground.phase }, { on := 2, ground := Ground.phase }, { on := 3, ground := Ground.phase }, { on := 4, ground := Ground.phase }, { on := 5, ground := Ground.phase }, { on := 6, ground := Ground.phase }, { on := 7, ground := Ground.phase }, { on := 8, ground := Ground.phase }, { on := 9, ground := Ground.phase }, { on := 10, ground := Ground.phase }, { on := 11, ground := Ground.phase }, { on := 12, ground := Ground.phase }, { on := 13, ground := Ground.phase }, { on := 14, ground := Ground.phase }, { on := 15, ground := Ground.phase }, { on := 16, ground := Ground.phase }, { on := 17, ground := Ground.phase }, { on := 18, ground := Ground.phase }, { on := 19, ground := Ground.phase }, { on := 20, ground := Ground.phase }, { on := 21, ground := Ground.phase }, { on := 22, ground := Ground.phase }, { on := 23, ground := Ground.phase }, { on := 24, ground := Ground.phase }, { on := 25, ground := Ground.phase }, { on := 26, ground := Ground.phase }], guard := none }) (v := ?_) rfl (by kernel_rfl) (by kernel_rfl) (by kernel_rfl) (fun _ _ _ h => h) (Or.inl ⟨by rfl, ?_⟩) (by assumption) ?_
        rotate_left
        · intro w hSw
          try dsimp only at hSw
          go_simp
          try with_reducible rfl
        try simp only [Act.put, List.setIfInBounds_toArray, List.set_cons_zero, List.set_cons_succ]
        refine wpAnyH_done (by kernel_rfl) ?_ _
        go_wp2_with fail
        go_ret
        exact ⟨rfl, hw.trans hG⟩
      · rw [hb] at B1 E
        rw [Bool.true_and] at E
        rw [E] at B2
        clear E
        cases he : eqB f h
        · rw [he] at B2 Q
          go_wp2_with fail
          (go_region_held3 (fun u => Gr w2 u ∧ u.cell? ⟨B0, 0, none⟩ = some (.int .u64 (f 0)) ∧ u.cell? ⟨B0, 1, none⟩ = some (.int .u64 (f 1)) ∧ u.cell? ⟨B0, 2, none⟩ = some (.int .u64 (f 2)) ∧ u.cell? ⟨B0, 3, none⟩ = some (.int .u64 (f 3)) ∧ u.cell? ⟨B0, 4, none⟩ = some (.int .u64 (f 4)) ∧ u.cell? ⟨B0, 5, none⟩ = some (.int .u64 (f 5)) ∧ u.cell? ⟨(B0 + 1), 0, none⟩ = some (.int .u64 (h 0)) ∧ u.cell? ⟨(B0 + 1), 1, none⟩ = some (.int .u64 (h 1)) ∧ u.cell? ⟨(B0 + 1), 2, none⟩ = some (.int .u64 (h 2)) ∧ u.cell? ⟨(B0 + 1), 3, none⟩ = some (.int .u64 (h 3)) ∧ u.cell? ⟨(B0 + 1), 4, none⟩ = some (.int .u64 (h 4)) ∧ u.cell? ⟨(B0 + 1), 5, none⟩ = some (.int .u64 (h 5))) (first | (with_reducible assumption) | exact KK.out _ hG | exact KK.out _ ((Gr.refl _).drew)) (first | (go_at_call 9; with_reducible refine (told_any _).mono ?_; rintro e w9 ⟨rfl, rfl⟩) | (go_at_call 11; have hS := (‹Gr w2 _ ∧ _›).1; (first | (with_reducible refine (B1.out _).mono ?_) | (with_reducible refine (B2.out _).mono ?_) | (with_reducible refine (B3.out _).mono ?_)); rintro e w9 ⟨rfl, hg9⟩; have hG := hS.trans hg9)))
          go_wp2_with fail
          go_ret
          exact ⟨rfl, hw.trans hG⟩
        · rw [he] at B2 Q
          go_wp2_with fail
          (go_region_held3 (fun u => Gr w2 u ∧ u.cell? ⟨B0, 0, none⟩ = some (.int .u64 (f 0)) ∧ u.cell? ⟨B0, 1, none⟩ = some (.int .u64 (f 1)) ∧ u.cell? ⟨B0, 2, none⟩ = some (.int .u64 (f 2)) ∧ u.cell? ⟨B0, 3, none⟩ = some (.int .u64 (f 3)) ∧ u.cell? ⟨B0, 4, none⟩ = some (.int .u64 (f 4)) ∧ u.cell? ⟨B0, 5, none⟩ = some (.int .u64 (f 5)) ∧ u.cell? ⟨(B0 + 1), 0, none⟩ = some (.int .u64 (h 0)) ∧ u.cell? ⟨(B0 + 1), 1, none⟩ = some (.int .u64 (h 1)) ∧ u.cell? ⟨(B0 + 1), 2, none⟩ = some (.int .u64 (h 2)) ∧ u.cell? ⟨(B0 + 1), 3, none⟩ = some (.int .u64 (h 3)) ∧ u.cell? ⟨(B0 + 1), 4, none⟩ = some (.int .u64 (h 4)) ∧ u.cell? ⟨(B0 + 1), 5, none⟩ = some (.int .u64 (h 5))) (first | (with_reducible assumption) | exact KK.out _ hG | exact KK.out _ ((Gr.refl _).drew)) (first | (go_at_call 9; with_reducible refine (told_any _).mono ?_; rintro e w9 ⟨rfl, rfl⟩) | (go_at_call 11; have hS := (‹Gr w2 _ ∧ _›).1; (first | (with_reducible refine (B1.out _).mono ?_) | (with_reducible refine (B2.out _).mono ?_) | (with_reducible refine (B3.out _).mono ?_)); rintro e w9 ⟨rfl, hg9⟩; have hG := hS.trans hg9)))
          go_wp2_with fail
          go_ret
          exact ⟨rfl, hw.trans hG⟩

end Go.Proofs.Ytkekljlkgnfofaa
