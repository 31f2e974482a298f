/- WhereAll's walk: it answers true at every input; beyond its own new row of marks nothing is written. -/
import Derived.Test.YtleoiibeaaagjaaWLaws
import Derived.Test.YtleoiibeaaagjaaWAllMath
import Derived.Deep.OwnRows
namespace Go.Proofs.Ytleoiibeaaagjaa
open Go.RowKit

theorem Dr.grownOf {W u u' : World} (g : Grown W u) (h : Dr u u') : Grown W u' := by
  obtain ⟨m, rfl⟩ := h
  induction m with
  | zero => exact g
  | succ k ih => exact ih.drew
theorem rowIs_drewN {u : World} {b t n : Nat} {f : Nat → Value} (h : u.rowIs b t n f) (m : Nat) : (u.drewN m).rowIs b t n f := h.of_block rfl
theorem Grown.drewN {W u : World} (g : Grown W u) (m : Nat) : Grown W (u.drewN m) := Dr.grownOf g ⟨m, rfl⟩

/-- the marks behind k whole sectors and i locals of the next one -/
def markB (x : Int) (k i j : Nat) : Bool := decide (sectorF x j < k ∨ (sectorF x j = k ∧ localF x j < i))
theorem mark_next {x y : Int} {k : Nat} (i : Nat) (hi : (twF x k * thF x y k : Int) = i) (j : Nat) (hj : isCellB x y j = true) :
    markB x k i j = markB x (k + 1) 0 j := by
  unfold markB
  have l := localF_bd hj
  have a := sectorF_mod hj
  by_cases e : sectorF x j = k
  · have h2 : localF x j < i := by rw [e] at l; omega
    simp [e, h2]; omega
  · have h0 : 0 ≤ localF x j := l.1
    rw [decide_eq_decide]
    omega
theorem mark_set {x y : Int} {k i c : Nat} (hk : isSectorB x y k = true) (hi : (i : Int) < twF x k * thF x y k) (hc : globalF x k i = c) (j : Nat) (hj : isCellB x y j = true) :
    (if j = c then Value.bool true else .bool (markB x k i j)) = .bool (markB x k (i + 1) j) := by
  have s := global_sector hk (l := i) (by omega) hi
  have l := global_local hk (l := i) (by omega) hi
  rw [hc] at s l
  unfold markB
  split
  · rename_i e
    subst e
    congr 1
    rw [s, l]; symm; rw [decide_eq_true_eq]; omega
  · rename_i e
    congr 1
    rw [decide_eq_decide]
    have : ¬ (sectorF x j = k ∧ localF x j = i) := by
      rintro ⟨e1, e2⟩
      have b := global_back hj
      rw [e1, e2, hc] at b
      omega
    omega

set_option maxHeartbeats 2000000 in
set_option maxRecDepth 100000 in
theorem whereAll_any (a b : Int) (w : World) :
    Calls Try.prog 7 #[.int .i64 a, .int .i64 b] w fun e w' => e = .returned (.bool true) ∧ Grown w w' := by
  obtain ⟨x, hx⟩ : ∃ x, x = withinF a 1 70 := ⟨_, rfl⟩
  obtain ⟨y, hy⟩ : ∃ y, y = withinF b 1 70 := ⟨_, rfl⟩
  have xb := within_bd a 1 70 (by omega)
  have yb := within_bd b 1 70 (by omega)
  rw [← hx] at xb
  rw [← hy] at yb
  have HX := hide hx
  have HY := hide hy
  clear hx hy
  have hm : mayB x y = true := (mayB_iff _ _).2 ⟨by omega, by omega, by omega, by omega⟩
  have hp := may_mul hm
  obtain ⟨N, hN⟩ : ∃ N : Nat, x * y = N := ⟨(x * y).toNat, by omega⟩
  have hcell : ∀ j : Nat, j < N → isCellB x y j = true := fun j hj => (isCellB_iff _ _ _).2 ⟨hm, by omega, by omega⟩
  have HC := hide hcell
  clear hcell
  have hap := across_mul hm
  obtain ⟨S, hS⟩ : ∃ S : Nat, acrossF x * acrossF y = S := ⟨(acrossF x * acrossF y).toNat, by omega⟩
  have hmk : ∀ u : World, (Instr.makeSlice 35 (.int .i64 (N : Int)) (.int .i64 (N : Int))).run Try.prog u = .ok (.slice (some ⟨u.heap.size, 0, none⟩) N N) (u.alloc (.cells (madeCells #[.bool false] N) 4)) := fun u => by
    have := run_makeSlice (P := Try.prog) u 35 4 Try.t4 (.bool false) Try.underlying35 (by kernel_rfl) (by kernel_rfl) .i64 .i64 N N (by omega) (Int.le_refl _) (by show (N : Int).toNat * 1 ≤ _; omega) (by show ((1 : Nat) : Int) * N ≤ _; omega) (by omega)
    simpa [show Try.t4.size = 1 from rfl, Value.cells] using this
  go_enter Try.func7, Try.ntmps7
  go_wp2_with fail
  refine (within_any _ _ _ _ (by omega) (by omega) (by omega)).mono ?_
  rintro e w1 ⟨rfl, m1, rfl⟩
  rw [← HX.out]
  go_wp2_with fail
  refine (within_any _ _ _ _ (by omega) (by omega) (by omega)).mono ?_
  rintro e w2 ⟨rfl, m2, rfl⟩
  rw [← HY.out]
  go_wp2_with fail
  refine (sectors_yes _ _ _ hm).mono ?_
  rintro e w3 ⟨rfl, m3, rfl⟩
  have hz0 := cnt_zero hm
  have hrow0 : ((w.drewN (m1 + m2)).alloc (.cells (madeCells #[.bool false] N) 4)).rowIs w.heap.size 4 N (fun _ => .bool false) := World.rowIs_made _ _ _ _
  have hg0 : Grown w ((w.drewN (m1 + m2)).alloc (.cells (madeCells #[.bool false] N) 4)) := Grown.alloc (Grown.drewN (Grown.refl _) _) _ _
  have HR := hide hrow0
  have HG := hide hg0
  have HZ := hide hz0
  clear hrow0 hg0 hz0
  go_wp2_with fail
  go_loopw [8, 9] (fun n s u => ∃ k : Nat, k ≤ S ∧ s = .int .i64 k ∧ n = .int .i64 (cntF x y k) ∧ u.rowIs w.heap.size 4 N (fun j => .bool (markB x k 0 j)) ∧ Grown w u) (fun _ s _ => S - (intOf s).toNat)
  case atStart =>
    refine ⟨0, by omega, rfl, by rw [show ((0 : Nat) : Int) = 0 from rfl, HZ.out], ?_, ?_⟩
    · refine World.rowIs.congr (rowIs_drewN HR.out m3) (fun j hj => ?_)
      have l := localF_bd (HC.out j hj)
      have q := (isSectorB_iff _ _ _).1 (sectorF_mod (HC.out j hj)).2.2
      simp [markB]; omega
    · exact Grown.drewN HG.out m3
  case round =>
    obtain ⟨k, hk, rfl, rfl, hrow, hg⟩ := hrel
    have HR1 := hide hrow
    have HG1 := hide hg
    clear hrow hg
    have cb := cnt_bd hm (k := k) (by omega) (by omega)
    by_cases hlt : k < S
    · have hsec : isSectorB x y k = true := (isSectorB_iff _ _ _).2 ⟨hm, by omega, by omega⟩
      have lm := localB_mul hsec
      obtain ⟨u1, u2, u3, u4, u5, u6⟩ := size_bd hsec
      clear u5 u6
      obtain ⟨L, hL⟩ : ∃ L : Nat, twF x k * thF x y k = L := ⟨(twF x k * thF x y k).toNat, by omega⟩
      go_wp2_with (go_at_call 28; refine (size_yes _ _ _ _ hsec).mono ?_; rintro e w' ⟨rfl, m, rfl⟩)
      go_loopw [8, 12] (fun n s u => ∃ i : Nat, i ≤ L ∧ s = .int .i64 i ∧ n = .int .i64 (cntF x y k + i) ∧ u.rowIs w.heap.size 4 N (fun j => .bool (markB x k i j)) ∧ Grown w u) (fun _ s _ => L - (intOf s).toNat)
      case atStart =>
        refine ⟨0, by omega, rfl, by simp, ?_, ?_⟩
        · exact rowIs_drewN HR1.out _
        · exact Grown.drewN HG1.out _
      case round =>
        obtain ⟨i, hi, rfl, rfl, hrow, hg⟩ := hrel
        have HR2 := hide hrow
        have HG2 := hide hg
        by_cases hli : i < L
        · have gc := global_cell hsec (l := i) (by omega) (by omega)
          obtain ⟨_, gc1, gc2⟩ := (isCellB_iff _ _ _).1 gc.1
          obtain ⟨c, hc⟩ : ∃ c : Nat, globalF x k i = c := ⟨(globalF x k i).toNat, by omega⟩
          have hcN : c < N := by omega
          have gs := global_sector hsec (l := i) (by omega) (by omega)
          have gl := global_local hsec (l := i) (by omega) (by omega)
          rw [hc] at gs gl
          have hcc : isCellB x y c = true := HC.out c hcN
          have hcell := hrow.cell hcN
          have hfr := hrow.frozen c
          have hmark : markB x k i c = false := by unfold markB; rw [gs, gl]; simp
          rw [hmark] at hcell
          have HM : Hid (∀ j : Nat, isCellB x y j = true → (if j = c then Value.bool true else .bool (markB x k i j)) = .bool (markB x k (i + 1) j)) := hide (fun j hj => mark_set hsec (by omega) hc j hj)
          have hi0 : (0 : Int) ≤ i := by omega
          have hi1 : (i : Int) < twF x k * thF x y k := by omega
          have HI := hide hi1
          clear gc gc1 gc2 gl hrow hg hi1
          go_wp2_with (first | (go_at_call 30; refine (global_yes _ _ _ _ _ hsec hi0 HI.out).mono ?_; rintro e w' ⟨rfl, m, rfl⟩) | (go_at_call 23; refine (sector_yes _ _ _ _ hcc).mono ?_; rintro e w' ⟨rfl, m, rfl⟩))
          go_roundw
          case rel =>
            refine ⟨i + 1, by omega, by go_num, by go_num, ?_, ?_⟩
            · exact World.rowIs.congr ((rowIs_drewN HR2.out _).set c (.bool true)) (fun j hj => HM.out j (HC.out j hj))
            · exact Grown.setCell (Grown.drewN HG2.out _) (Nat.le_refl _) _
          case measure => simp [intOf]; omega
        · have hiL : i = L := by omega
          subst hiL
          go_wp2
          go_roundw
          case rel =>
            refine ⟨k + 1, by omega, by go_num, ?_, ?_, ?_⟩
            · rw [← hL, ← cnt_succ hsec]; rfl
            · exact World.rowIs.congr HR2.out (fun j hj => by rw [mark_next i hL j (HC.out j hj)])
            · exact HG2.out
          case measure => simp [intOf]; omega
    · have hkS : k = S := by omega
      subst hkS
      have hall := cnt_all hm
      rw [hS] at hall
      have hns : isSectorB x y k = false := by
        cases h : isSectorB x y k
        · rfl
        · have := ((isSectorB_iff _ _ _).1 h).2.2; omega
      go_wp2_with (first | (go_at_call 28; refine (size_no _ _ _ _ hns).mono ?_; rintro e w' ⟨rfl, m, rfl⟩) | (go_at_call 16; refine (told_any _).mono ?_; rintro e w' ⟨rfl, m, rfl⟩))
      go_ret
      exact ⟨ret_bool (by simp), Grown.drewN HG1.out _⟩

end Go.Proofs.Ytleoiibeaaagjaa
