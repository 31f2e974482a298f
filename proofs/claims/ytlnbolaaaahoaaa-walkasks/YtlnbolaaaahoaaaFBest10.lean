/- The document's Best writes nothing; what the laws' walks want of a slice of numbers. No condition. -/
import Derived.Test.YtlnbolaaaahoaaaBS2
namespace Go.Proofs.Ytlnbolaaaahoaaa
open Go.RowKit
set_option maxRecDepth 20000

set_option maxHeartbeats 2000000 in
theorem rbest_dr (a : Option Addr) (n c : Nat) (L : List Sd) (cl sd : Int) (w : World) (h : SlS w a n c L) :
    Calls Try.prog 18 #[.slice a n c, .int .i64 cl, .int .i64 sd] w fun e w' => e = .returned (.int .i64 (bst INF cl sd L).1) ∧ Dr w w' := by
  have hl := h.len.1
  have hb := h.len.2.1
  have hm := h.len.2.2
  unfold maxLen at hm
  have H := hide h
  have HL := hide hl
  clear h hl
  go_enter Try.func18, Try.ntmps18
  go_wp2_with fail
  go_loopw [7, 8, 9] (fun b f i u => ∃ (s : Nat), s ≤ n ∧ i = .int .i64 s ∧ b = .int .i64 (bst INF cl sd (L.take s)).1 ∧ f = .bool (bst INF cl sd (L.take s)).2 ∧ Dr w u) (fun _ _ i _ => n - (intOf i).toNat)
  case atStart => exact ⟨0, by omega, rfl, rfl, rfl, Dr.refl _⟩
  case round =>
    obtain ⟨s, hs, rfl, rfl, rfl, hg⟩ := hrel
    by_cases hsn : s < n
    · have hsn2 : (s : Int) < (n : Int) := by omega
      obtain ⟨B, o, rfl, hB, hc⟩ := H.out.at (by omega)
      obtain ⟨c1, c2, c3⟩ := hc s hsn
      replace c1 := cell_gr c1 hg.gr
      replace c2 := cell_gr c2 hg.gr
      replace c3 := cell_gr c3 hg.gr
      have HX := hide (bst_next (inf := INF) (c := cl) (s := sd) (L := L) (k := s) (by rw [HL.out]; exact hsn))
      clear hc
      obtain ⟨⟨q1, q2, q3⟩, hq⟩ : ∃ q : Sd, q = el L s := ⟨_, rfl⟩
      rw [← hq] at c1 c2 c3 HX
      obtain ⟨⟨bv, bf⟩, hr⟩ : ∃ r : Int × Bool, r = bst INF cl sd (L.take s) := ⟨_, rfl⟩
      rw [← hr] at HX ⊢
      clear hq hr
      simp only at c1 c2 c3
      by_cases h1 : q1 = cl
      · have e1 : (q1 == cl) = true := by simp [h1]
        by_cases h2 : q2 = sd
        · have e2 : (q2 == sd) = true := by simp [h2]
          cases bf with
          | false =>
            rw [bstep_yes ⟨h1, h2, .inl rfl⟩] at HX
            clear h1 h2
            go_wp2_with fail
            go_roundw
            case rel => exact ⟨s + 1, hsn, by go_num, by rw [HX.out], by rw [HX.out], hg⟩
            case measure => simp [intOf]; omega
          | true =>
            by_cases h3 : q3 < bv
            · rw [bstep_yes ⟨h1, h2, .inr h3⟩] at HX
              clear h1 h2
              go_wp2_with fail
              go_roundw
              case rel => exact ⟨s + 1, hsn, by go_num, by rw [HX.out], by rw [HX.out], hg⟩
              case measure => simp [intOf]; omega
            · rw [bstep_no (fun k => k.2.2.elim (fun e => by cases e) h3)] at HX
              clear h1 h2
              go_wp2_with fail
              go_roundw
              case rel => exact ⟨s + 1, hsn, by go_num, by rw [HX.out], by rw [HX.out], hg⟩
              case measure => simp [intOf]; omega
        · have e2 : (q2 == sd) = false := by simp [h2]
          rw [bstep_no (fun k => h2 k.2.1)] at HX
          clear h1 h2
          go_wp2_with fail
          go_roundw
          case rel => exact ⟨s + 1, hsn, by go_num, by rw [HX.out], by rw [HX.out], hg⟩
          case measure => simp [intOf]; omega
      · have e1 : (q1 == cl) = false := by simp [h1]
        rw [bstep_no (fun k => h1 k.1)] at HX
        clear h1
        go_wp2_with fail
        go_roundw
        case rel => exact ⟨s + 1, hsn, by go_num, by rw [HX.out], by rw [HX.out], hg⟩
        case measure => simp [intOf]; omega
    · have : s = n := by omega
      subst this
      have HT := hide (show L.take s = L from List.take_of_length_le (by rw [HL.out]; exact Nat.le_refl _))
      go_wp2
      go_ret
      rw [HT.out]
      exact ⟨rfl, hg⟩

end Go.Proofs.Ytlnbolaaaahoaaa
