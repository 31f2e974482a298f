/- What a mesh's Dirty makes; a table packed. No condition. -/
import Derived.Test.YtgbadbkipaccgaaGreatMGet14
namespace Go.Proofs.YtgbadbkipaccgaaGreat
open Go.RowKit
set_option maxRecDepth 20000

set_option maxHeartbeats 2000000 in
theorem mdirty_any {w : World} {p q gp B : Nat} {W H : Int} {N : Nat} {S mv : Nat → Int} {cnt : Int} (h : Ms w p q gp B W H N S mv cnt) {c v cc : Nat} {f : Nat → Int} {ep : Int} {ver : Nat → Int} (g : Gd w gp c v W H N cc f ep ver) :
    Calls Tryz.prog 16 #[.pointer (some ⟨p, 0, none⟩)] w fun e w' => (∃ v', e = .returned v' ∧ w'.ownsRow w.heap.size 3 1 v' (dirL mv ver (cntS W H)).length (flatN (dirL mv ver (cntS W H)))) ∧ Gr w w' := by
  obtain ⟨i0, hi, hz0, hz1, hz2⟩ := info_parts info_int
  have HM := hide h
  have HG := hide g
  obtain ⟨c0, c1, c2⟩ := h.cells
  have hb := h.bd.2.1
  clear h g
  obtain ⟨n, hn⟩ : ∃ n, cntS W H = n := ⟨_, rfl⟩
  rw [hn] at hb c1 ⊢
  have HN := hide hn
  clear hn
  go_enter Tryz.func16, Tryz.ntmps16
  go_wp2_with fail
  go_loopw [3, 12] (fun x i u => ∃ k : Nat, k ≤ n ∧ i = .int .i64 k ∧ u.ownsRow w.heap.size 3 1 x (dirL mv ver k).length (flatN (dirL mv ver k)) ∧ Gr w u) (fun _ i _ => n - (intOf i).toNat)
  case atStart => exact ⟨0, Nat.zero_le _, rfl, ints_nil _ _, (by repeat (first | exact Gr.refl _ | assumption | exact Dr.gr (by assumption) | refine Gr.alloc ?_ _ | refine Gr.drewN ?_ _ | refine Gr.drew ?_ | refine Gr.trans ?_ (by assumption) | refine Gr.trans ?_ (Dr.gr (by assumption))))⟩
  case round =>
    obtain ⟨k, hk, rfl, hown, hgr⟩ := hrel
    by_cases hlt : k < n
    · have hkI : (k : Int) < (n : Int) := by omega
      have hk0 : 0 ≤ (k : Int) := by omega
      have HO := hide hown
      have HR := hide hgr
      have cl := dir_len mv ver k
      obtain ⟨y, -, d0, -, -⟩ := (HM.out.gr hgr).at (s := k) (by rw [HN.out]; exact hlt)
      replace c0 := cell_gr c0 hgr
      replace c1 := cell_gr c1 hgr
      have H2 : Hid (∀ u, Dr wr u → Calls Tryz.prog 41 #[.pointer (some ⟨gp, 0, none⟩), .int .i64 k] u fun e w' => e = .returned (.int .i64 (ver k)) ∧ Dr u w') := hide fun u hu => by
        have := gversion_dr ((HG.out.gr hgr).dr hu) (k : Int)
        have e : gatF (cntS W H) ver k = ver k := by unfold gatF; rw [if_pos (by rw [HN.out]; omega), Int.toNat_natCast]
        rw [e] at this
        exact this
      by_cases hb : mv k = ver k
      · have HE : Hid (dirL mv ver (k + 1) = dirL mv ver k) := hide (dir_no hb)
        rw [hb] at d0
        generalize ver k = z at *
        clear hown hgr hb
        go_wp2_with fail
        go_quiet ((go_at_call 41; refine Dr.quiet (H2.out _ ⟨_, rfl⟩)))
        go_wp2_with fail
        go_roundw
        case rel => exact ⟨k + 1, by omega, by go_num, by rw [HE.out]; exact own_grI HO.out ((Gr.refl _).drewN _), HR.out.drewN _⟩
        case measure => simp [intOf]; omega
      · have HE : Hid (dirL mv ver (k + 1) = dirL mv ver k ++ [k]) := hide (dir_yes hb)
        generalize ver k = z at *
        generalize mv k = z2 at *
        clear hown hgr
        go_wp2_with fail
        go_quiet ((go_at_call 41; refine Dr.quiet (H2.out _ ⟨_, rfl⟩)))
        have HO2 := hide (own_grI HO.out ((Gr.refl wr).drewN nq))
        have HR2 := hide (HR.out.drewN nq)
        go_wp2_with (at_builtin; refine wpList_append_own _ rfl _ _ 31 rfl w.heap.size 3 i0 (.int .i64 0) 1 8 Tryz.underlying31 hi hz0 hz1 hz2 rfl (by decide) _ _ _ rfl (own_grI HO2.out ((Gr.refl _).alloc _)) ⟨(wr.drewN nq).heap.size, 0, none⟩ 1 1 [.int .i64 k] rfl rfl (alloc_one _ _ _) (by simp [Value.oneCell']) (by unfold maxLen; omega) (by omega) (by have := HR2.out.size; simp only [World.size_alloc]; omega) ?_; intro v' w4 hown' hgrow hnil)
        go_roundw
        case rel => exact ⟨k + 1, by omega, by go_num, by rw [HE.out, List.length_append, flatN_app]; exact hown', Gr.grown (HR2.out.alloc _) hgrow (fun q e => (HO2.out.lt q e).1)⟩
        case measure => simp [intOf]; omega
    · have hkn : k = n := by omega
      subst hkn
      go_wp2
      go_ret
      exact ⟨⟨_, rfl, hown⟩, hgr⟩

theorem info_u16 : (Tryz.prog.info? 101).map (fun i => (i.zero, i.size, i.bytes)) = some (some (.int .u16 0), 1, 2) := by kernel_rfl
theorem wrap16 (n : Int) : IntKind.u16.wrap n = n % 65536 := by simp [IntKind.wrap, IntKind.bits, IntKind.signed]
theorem Row.make16 (w : World) (C : Nat) : Row (w.alloc (.cells (madeCells #[.int .u16 0] C) 101)) w.heap.size 101 .u16 C (fun _ => 0) := Row.of_is (World.rowIs_made w (.int .u16 0) C 101)

set_option maxHeartbeats 1000000 in
theorem packed_any {w : World} {g c M : Nat} {G : Nat → Int} (h : FarS w g c M G) (hM : M ≤ 65536) (hG : ∀ i, i < M → 0 ≤ G i) :
    Calls Tryz.prog 67 #[.slice (some ⟨g, 0, none⟩) M c] w fun e w' => (∃ b c', e = .returned (.slice (some ⟨b, 0, none⟩) M c') ∧ w.heap.size ≤ b ∧ Row w' b 101 .u16 M (fun i => min (G i) 65535)) ∧ Gr w w' := by
  have hmk := run_make_row' (P := Tryz.prog) 67 101 (.int .u16 0) 2 Tryz.underlying67 info_u16 rfl .i64 .i64 M (by omega) (by omega)
  have H := hide h
  have HG := hide hG
  have hR := Row.make16 w M
  clear h hG
  go_enter Tryz.func67, Tryz.ntmps67
  go_wp2_with fail
  have hg0 : Gr w (w.alloc (.cells (madeCells #[.int .u16 0] M) 101)) := (Gr.refl w).alloc _
  generalize hb : w.heap.size = b at *
  generalize (w.alloc (.cells (madeCells #[.int .u16 0] M) 101)) = u0 at *
  go_loopw [11] (fun i u => ∃ k : Nat, k ≤ M ∧ i = .int .i64 k ∧ Row u b 101 .u16 M (fun i => if i < k then min (G i) 65535 else 0) ∧ Gr w u) (fun i _ => M - (intOf i).toNat)
  case atStart => exact ⟨0, Nat.zero_le _, rfl, hR.congr (fun i _ => by simp), hg0⟩
  case round =>
    obtain ⟨k, hk, rfl, hrow, hgr⟩ := hrel
    clear hR hg0 hmk
    by_cases hlt : k < M
    · have hkI : (k : Int) < (M : Int) := by omega
      have hk0 : 0 ≤ (k : Int) := by omega
      have c1 := cell_gr (H.out.cell hlt) hgr
      have c2 := hrow.cell hlt
      have f2 := hrow.frozen k
      have hp := HG.out k hlt
      obtain ⟨z, hz⟩ : ∃ z, G k = z := ⟨_, rfl⟩
      rw [hz] at c1 hp
      have HZ := hide hz
      have hne : b ≠ g := by have := (H.out).lt; omega
      have HW := hide hrow
      have HR := hide hgr
      clear hrow hgr hz
      have hwz : IntKind.u16.wrap (min z 65535) = min z 65535 := by rw [wrap16]; omega
      go_wp2_with fail
      exact ⟨⟨k + 1, by omega, by go_num, (HW.out.set k (min z 65535)).congr (fun i _ => by
        by_cases e : i = k
        · subst e; rw [if_pos rfl, if_pos (by omega), HZ.out]
        · rw [if_neg e, ite_same (show i < k ↔ i < k + 1 by omega)]), HR.out.set (p := ⟨b, k, none⟩) (by simp only; omega) _⟩, by simp [intOf]; omega⟩
    · have hkn : k = M := by omega
      subst hkn
      go_wp2
      go_ret
      exact ⟨⟨b, _, rfl, by omega, hrow.congr (fun i hi => by simp [hi])⟩, hgr⟩
end Go.Proofs.YtgbadbkipaccgaaGreat
