/- The least key by a cell and a side; whether two lists are the same; at most 60 of a list: the program's and the document's. No condition. -/
import Derived.Test.YtobankjdgdjehaaSCmp8
import Derived.Laws.StructEq
import Derived.Shelf.SlicesQ.Equal
import Derived.Test.YtobankjdgdjehaaSLay
namespace Go.Proofs.Ytobankjdgdjehaa
open Go.RowKit
set_option maxRecDepth 20000

/-- what no way costs -/
def INF : Int := 1099511627776
theorem bstep_no {c s : Int} {a : Int × Bool} {x : Sd} (h : ¬ (x.1 = c ∧ x.2.1 = s ∧ (a.2 = false ∨ x.2.2 < a.1))) : bstep c s a x = a := if_neg h
theorem bstep_yes {c s : Int} {a : Int × Bool} {x : Sd} (h : x.1 = c ∧ x.2.1 = s ∧ (a.2 = false ∨ x.2.2 < a.1)) : bstep c s a x = (x.2.2, true) := if_pos h
theorem bst_next {inf c s : Int} {L : List Sd} {k : Nat} (h : k < L.length) : bst inf c s (L.take (k + 1)) = bstep c s (bst inf c s (L.take k)) (el L k) := by rw [take_el h, bst_snoc]

set_option maxHeartbeats 2000000 in
theorem best_any (a : Option Addr) (n c : Nat) (L : List Sd) (cl sd : Int) (w : World) (h : SlS w a n c L) :
    Calls Try.prog 16 #[.slice a n c, .int .i64 cl, .int .i64 sd] w fun e w' => e = .returned (.int .i64 (bst INF cl sd L).1) ∧ Gr w w' := by
  have hl := h.len.1
  have hb := h.len.2.1
  have hm := h.len.2.2
  unfold maxLen at hm
  have H := hide h
  have HL := hide hl
  clear h hl
  go_enter Try.func16, Try.ntmps16
  go_wp2_with fail
  go_loopw [7, 8, 13] (fun b f i u => ∃ (s : Nat), s ≤ n ∧ i = .int .i64 s ∧ b = .int .i64 (bst INF cl sd (L.take s)).1 ∧ f = .bool (bst INF cl sd (L.take s)).2 ∧ Gr w u) (fun _ _ i _ => n - (intOf i).toNat)
  case atStart => exact ⟨0, by omega, rfl, rfl, rfl, Gr.refl _⟩
  case round =>
    obtain ⟨s, hs, rfl, rfl, rfl, hg⟩ := hrel
    by_cases hsn : s < n
    · have hsn2 : (s : Int) < (n : Int) := by omega
      obtain ⟨B, o, rfl, hB, hc⟩ := H.out.at (by omega)
      obtain ⟨c1, c2, c3⟩ := hc s hsn
      replace c1 := cell_gr c1 hg
      replace c2 := cell_gr c2 hg
      replace c3 := cell_gr c3 hg
      have HX := hide (bst_next (inf := INF) (c := cl) (s := sd) (L := L) (k := s) (by rw [HL.out]; exact hsn))
      clear hc
      obtain ⟨⟨q1, q2, q3⟩, hq⟩ : ∃ q : Sd, q = el L s := ⟨_, rfl⟩
      rw [← hq] at c1 c2 c3 HX
      obtain ⟨⟨bv, bf⟩, hr⟩ : ∃ r : Int × Bool, r = bst INF cl sd (L.take s) := ⟨_, rfl⟩
      rw [← hr] at HX ⊢
      clear hq hr
      simp only at c1 c2 c3
      by_cases h1 : q1 = cl
      · have e1 : (q1 == cl) = true := by simp [h1]
        by_cases h2 : q2 = sd
        · have e2 : (q2 == sd) = true := by simp [h2]
          cases bf with
          | false =>
            rw [bstep_yes ⟨h1, h2, .inl rfl⟩] at HX
            clear h1 h2
            go_wp2_with fail
            go_roundw
            case rel => exact ⟨s + 1, hsn, by go_num, by rw [HX.out], by rw [HX.out], hg.alloc _⟩
            case measure => simp [intOf]; omega
          | true =>
            by_cases h3 : q3 < bv
            · rw [bstep_yes ⟨h1, h2, .inr h3⟩] at HX
              clear h1 h2
              go_wp2_with fail
              go_roundw
              case rel => exact ⟨s + 1, hsn, by go_num, by rw [HX.out], by rw [HX.out], hg.alloc _⟩
              case measure => simp [intOf]; omega
            · rw [bstep_no (fun k => k.2.2.elim (fun e => by cases e) h3)] at HX
              clear h1 h2
              go_wp2_with fail
              go_roundw
              case rel => exact ⟨s + 1, hsn, by go_num, by rw [HX.out], by rw [HX.out], hg.alloc _⟩
              case measure => simp [intOf]; omega
        · have e2 : (q2 == sd) = false := by simp [h2]
          rw [bstep_no (fun k => h2 k.2.1)] at HX
          clear h1 h2
          go_wp2_with fail
          go_roundw
          case rel => exact ⟨s + 1, hsn, by go_num, by rw [HX.out], by rw [HX.out], hg.alloc _⟩
          case measure => simp [intOf]; omega
      · have e1 : (q1 == cl) = false := by simp [h1]
        rw [bstep_no (fun k => h1 k.1)] at HX
        clear h1
        go_wp2_with fail
        go_roundw
        case rel => exact ⟨s + 1, hsn, by go_num, by rw [HX.out], by rw [HX.out], hg.alloc _⟩
        case measure => simp [intOf]; omega
    · have : s = n := by omega
      subst this
      have HT := hide (show L.take s = L from List.take_of_length_le (by rw [HL.out]; exact Nat.le_refl _))
      go_wp2
      go_ret
      rw [HT.out]
      exact ⟨rfl, hg⟩

set_option maxHeartbeats 2000000 in
theorem rbest_any (a : Option Addr) (n c : Nat) (L : List Sd) (cl sd : Int) (w : World) (h : SlS w a n c L) :
    Calls Try.prog 17 #[.slice a n c, .int .i64 cl, .int .i64 sd] w fun e w' => e = .returned (.int .i64 (bst INF cl sd L).1) ∧ Gr w w' := by
  have hl := h.len.1
  have hb := h.len.2.1
  have hm := h.len.2.2
  unfold maxLen at hm
  have H := hide h
  have HL := hide hl
  clear h hl
  go_enter Try.func17, Try.ntmps17
  go_wp2_with fail
  go_loopw [7, 8, 9] (fun b f i u => ∃ (s : Nat), s ≤ n ∧ i = .int .i64 s ∧ b = .int .i64 (bst INF cl sd (L.take s)).1 ∧ f = .bool (bst INF cl sd (L.take s)).2 ∧ Gr w u) (fun _ _ i _ => n - (intOf i).toNat)
  case atStart => exact ⟨0, by omega, rfl, rfl, rfl, Gr.refl _⟩
  case round =>
    obtain ⟨s, hs, rfl, rfl, rfl, hg⟩ := hrel
    by_cases hsn : s < n
    · have hsn2 : (s : Int) < (n : Int) := by omega
      obtain ⟨B, o, rfl, hB, hc⟩ := H.out.at (by omega)
      obtain ⟨c1, c2, c3⟩ := hc s hsn
      replace c1 := cell_gr c1 hg
      replace c2 := cell_gr c2 hg
      replace c3 := cell_gr c3 hg
      have HX := hide (bst_next (inf := INF) (c := cl) (s := sd) (L := L) (k := s) (by rw [HL.out]; exact hsn))
      clear hc
      obtain ⟨⟨q1, q2, q3⟩, hq⟩ : ∃ q : Sd, q = el L s := ⟨_, rfl⟩
      rw [← hq] at c1 c2 c3 HX
      obtain ⟨⟨bv, bf⟩, hr⟩ : ∃ r : Int × Bool, r = bst INF cl sd (L.take s) := ⟨_, rfl⟩
      rw [← hr] at HX ⊢
      clear hq hr
      simp only at c1 c2 c3
      by_cases h1 : q1 = cl
      · have e1 : (q1 == cl) = true := by simp [h1]
        by_cases h2 : q2 = sd
        · have e2 : (q2 == sd) = true := by simp [h2]
          cases bf with
          | false =>
            rw [bstep_yes ⟨h1, h2, .inl rfl⟩] at HX
            clear h1 h2
            go_wp2_with fail
            go_roundw
            case rel => exact ⟨s + 1, hsn, by go_num, by rw [HX.out], by rw [HX.out], hg⟩
            case measure => simp [intOf]; omega
          | true =>
            by_cases h3 : q3 < bv
            · rw [bstep_yes ⟨h1, h2, .inr h3⟩] at HX
              clear h1 h2
              go_wp2_with fail
              go_roundw
              case rel => exact ⟨s + 1, hsn, by go_num, by rw [HX.out], by rw [HX.out], hg⟩
              case measure => simp [intOf]; omega
            · rw [bstep_no (fun k => k.2.2.elim (fun e => by cases e) h3)] at HX
              clear h1 h2
              go_wp2_with fail
              go_roundw
              case rel => exact ⟨s + 1, hsn, by go_num, by rw [HX.out], by rw [HX.out], hg⟩
              case measure => simp [intOf]; omega
        · have e2 : (q2 == sd) = false := by simp [h2]
          rw [bstep_no (fun k => h2 k.2.1)] at HX
          clear h1 h2
          go_wp2_with fail
          go_roundw
          case rel => exact ⟨s + 1, hsn, by go_num, by rw [HX.out], by rw [HX.out], hg⟩
          case measure => simp [intOf]; omega
      · have e1 : (q1 == cl) = false := by simp [h1]
        rw [bstep_no (fun k => h1 k.1)] at HX
        clear h1
        go_wp2_with fail
        go_roundw
        case rel => exact ⟨s + 1, hsn, by go_num, by rw [HX.out], by rw [HX.out], hg⟩
        case measure => simp [intOf]; omega
    · have : s = n := by omega
      subst this
      have HT := hide (show L.take s = L from List.take_of_length_le (by rw [HL.out]; exact Nat.le_refl _))
      go_wp2
      go_ret
      rw [HT.out]
      exact ⟨rfl, hg⟩

/-- the model's '==' at a seed -/
theorem eql_seed (x y : Sd) (w : World) : Sem.run Try.prog (binOp .eql 38 (.agg (encS x).toArray) (.agg (encS y).toArray)) w = .ok (.bool (decide (x = y))) w := by
  have u3 := Try.underlying3
  have a3 := Try.isAgg3
  have z3 := Try.sizeOf3
  have hS : Try.prog.underlying 38 = some (.struct (Try.prog.fieldsOf 38)) := by kernel_rfl
  have hp : Try.prog.stoodInHeld 38 = false := by kernel_rfl
  obtain ⟨a, b, c⟩ := x
  obtain ⟨d, e, f⟩ := y
  simp only [encS]
  rw [run_eql_struct, show (10000 : Nat) = 9999 + 1 from rfl, run_equalIn_agg w 9999 38 _ _ hS hp]
  simp only [Program.fieldsOf, Try.underlying38]
  go_simp
  by_cases h1 : a = d <;> by_cases h2 : b = e <;> by_cases h3 : c = f <;> simp [h1, h2, h3]

end Go.Proofs.Ytobankjdgdjehaa
