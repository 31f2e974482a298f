/- What border's Cross makes: a row of its own; nothing that was there is written. -/
import Derived.Test.YtanihjgpdfploaaBCells11
import Derived.Test.YtanihjgpdfploaaLPair
namespace Go.Proofs.Ytanihjgpdfploaa
open Go.RowKit
set_option maxRecDepth 20000

theorem info_edge : (Try.prog.info? 49).map (fun i => (i.zero, i.size, i.bytes)) = some (some (.agg #[.int .i64 0, .int .i64 0]), 2, 16) := by kernel_rfl

set_option maxHeartbeats 4000000 in
theorem bcross_any {w : World} {p c v : Nat} {W H : Int} {N cc : Nat} {f : Nat → Int} {ep : Int} {ver : Nat → Int} (h : Gd w p c v W H N cc f ep ver) (x : Int) :
    Calls Try.prog 24 #[.pointer (some ⟨p, 0, none⟩), .int .i64 x] w fun e w' => (∃ v, e = .returned v ∧ w'.ownsRow w.heap.size 49 2 v (crossK W H N f x 4).length (flatP (crossK W H N f x 4))) ∧ Gr w w' := by
  obtain ⟨i0, hi, hz0, hz1, hz2⟩ := info_parts info_edge
  have HG := hide h
  clear h
  cases ho : opB N f x
  · rw [crossK_none 4 ho]
    go_enter Try.func24, Try.ntmps24
    go_wp2_with (go_at_call 43; refine (isOpen_any HG.out _).mono ?_; rintro e w1 ⟨rfl, hd1⟩; rw [ho])
    go_ret
    exact ⟨⟨_, rfl, pairs_nil _ _ _⟩, (by repeat (first | exact Gr.refl _ | assumption | exact Dr.gr (by assumption) | refine Gr.alloc ?_ _ | refine Gr.drewN ?_ _ | refine Gr.drew ?_ | refine Gr.trans ?_ (by assumption) | refine Gr.trans ?_ (Dr.gr (by assumption))))⟩
  · have HO1 := hide ho
    clear ho
    go_enter Try.func24, Try.ntmps24
    go_wp2_with (first | (go_at_call 43; refine (isOpen_any HG.out _).mono ?_; rintro e w1 ⟨rfl, hd1⟩; rw [HO1.out]) | (go_at_call 42; refine (gsize_any (HG.out.dr hd1)).mono ?_; rintro e w2 ⟨rfl, hg2⟩))
    have HR0 := hide (hd1.gr.trans hg2)
    have HG2 := hide (HG.out.gr (hd1.gr.trans hg2))
    go_loopw [7, 8] (fun v i u => ∃ k : Nat, k ≤ 4 ∧ i = .int .i64 k ∧ u.ownsRow w2.heap.size 49 2 v (crossK W H N f x k).length (flatP (crossK W H N f x k)) ∧ Gr w2 u) (fun _ i _ => 4 - (intOf i).toNat)
    case atStart => exact ⟨0, Nat.zero_le _, rfl, pairs_nil _ _ _, Gr.refl _⟩
    case round =>
      obtain ⟨k, hk, rfl, hown, hgr⟩ := hrel
      by_cases hlt : k < 4
      · have hkI : (k : Int) ≤ 3 := by omega
        have HO := hide hown
        have HR := hide hgr
        have cl := crossK_len W H N f x k
        have HGr := hide (HG2.out.gr hgr)
        obtain ⟨t2, hto⟩ : ∃ t2, overF W H x k = t2 := ⟨_, rfl⟩
        have HTO := hide hto
        cases hb : opB N f t2
        · have HE : Hid (crossK W H N f x (k + 1) = crossK W H N f x k) := hide (crossK_no (by unfold crsB; rw [hto, hb, Bool.and_false]))
          clear hown hgr hto
          go_wp2_with (first | (go_at_call 45; refine (over_any _ _ _ _ _).mono ?_; rintro e w3 ⟨rfl, hd3⟩; rw [HTO.out]) | (go_at_call 43; refine (isOpen_any (HGr.out.dr hd3) _).mono ?_; rintro e w4 ⟨rfl, hd4⟩; rw [hb]))
          go_roundw
          case rel => exact ⟨k + 1, by omega, by go_num, by rw [HE.out]; exact own_grP HO.out (hd3.gr.trans hd4.gr), HR.out.trans (hd3.gr.trans hd4.gr)⟩
          case measure => simp [intOf]; omega
        · have HE : Hid (crossK W H N f x (k + 1) = crossK W H N f x k ++ [(t2, gatF N f t2)]) := hide (by
            rw [crossK_yes (by unfold crsB; rw [hto, hb, HO1.out]; rfl)]
            unfold edgF gatF
            obtain ⟨q1, q2, -⟩ := (opB_iff _ _ _).1 hb
            rw [hto, if_pos ⟨q1, q2⟩])
          obtain ⟨z, hz⟩ : ∃ z, gatF N f t2 = z := ⟨_, rfl⟩
          rw [hz] at HE
          have HZ := hide hz
          clear hown hgr hto hz
          go_wp2_with (first | (go_at_call 45; refine (over_any _ _ _ _ _).mono ?_; rintro e w3 ⟨rfl, hd3⟩; rw [HTO.out]) | (go_at_call 43; refine (isOpen_any (HGr.out.dr hd3) _).mono ?_; rintro e w4 ⟨rfl, hd4⟩; rw [hb]) | (go_at_call 46; refine (gcost_dr (HGr.out.dr (hd3.trans hd4)) _).mono ?_; rintro e w5 ⟨rfl, hd5⟩; rw [HZ.out]; have hg5 := (hd3.gr.trans hd4.gr).trans hd5.gr; have HO2 := hide (own_grP HO.out hg5); have HR2 := hide (HR.out.trans hg5)) | (at_builtin; refine wpList_append_own _ rfl _ _ 30 rfl w2.heap.size 49 i0 (.agg #[.int .i64 0, .int .i64 0]) 2 16 Try.underlying30 hi hz0 hz1 hz2 rfl (by decide) _ _ _ rfl (own_grP HO2.out ((Gr.refl _).alloc _)) ⟨w5.heap.size, 0, none⟩ 1 1 [.int .i64 t2, .int .i64 z] rfl rfl (alloc_two _ _ _ _) (by simp [Value.oneCell']) (by unfold maxLen; omega) (by omega) (by have := HR2.out.size; simp only [World.size_alloc]; omega) ?_; intro v' w6 hown' hgrow hnil))
          go_roundw
          case rel => exact ⟨k + 1, by omega, by go_num, by rw [HE.out, List.length_append, flatP_app]; exact hown', Gr.grown (HR2.out.alloc _) hgrow (fun q e => (HO2.out.lt q e).1)⟩
          case measure => simp [intOf]; omega
      · have hkn : k = 4 := by omega
        subst hkn
        go_wp2
        go_ret
        exact ⟨⟨_, rfl, ownP_base hown HR0.out.size⟩, HR0.out.trans hgr⟩
end Go.Proofs.Ytanihjgpdfploaa
