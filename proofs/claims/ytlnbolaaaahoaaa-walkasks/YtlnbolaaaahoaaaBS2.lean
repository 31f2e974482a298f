/- Whether two lists of seeds are the same: the program's and the document's; at most 60 of a list, a copy. No condition. -/
import Derived.Test.YtlnbolaaaahoaaaBS1
import Derived.Shelf.SlLaysF0
import Derived.Shelf.SlicesE.Clone
import Derived.Shelf.SlicesQ.Equal
import Derived.Laws.StructEq
namespace Go.Proofs.Ytlnbolaaaahoaaa
open Go.RowKit
set_option maxRecDepth 20000

open Go.Shelf Go.Proofs

def laySort_ren : Go.Shelf.Ren := ⟨fun | 6 => 51 | 15 => 69 | 14 => 68 | 28 => 86 | 29 => 87 | 20 => 78 | 21 => 79 | 22 => 80 | 23 => 81 | 24 => 82 | 25 => 83 | 26 => 84 | 27 => 85 | 46 => 89 | 47 => 90 | 48 => 91 | 49 => 92 | 50 => 93 | 57 => 94 | n => n, fun | 22 => 26 | 24 => 50 | 25 => 74 | 3 => 3 | 39 => 79 | 0 => 0 | 53 => 91 | 55 => 94 | 4 => 4 | 46 => 99 | 45 => 98 | 50 => 103 | 5 => 5 | 9 => 9 | 66 => 107 | 70 => 111 | 76 => 113 | 77 => 76 | n => n, fun | n => n⟩
theorem laySort : Go.Proofs.SlLaysF0.n6 Try.prog laySort_ren := {
  mixed := by kernel_rfl,
  f6 := ⟨Try.f51.name, by decide, Try.func51.trans (congrArg some (by kernel_rfl))⟩,
  f14 := ⟨Try.f68.name, by decide, Try.func68.trans (congrArg some (by kernel_rfl))⟩,
  f15 := Try.func69.trans (congrArg some (by kernel_rfl)),
  f20 := ⟨Try.f78.name, by decide, Try.func78.trans (congrArg some (by kernel_rfl))⟩,
  f21 := ⟨Try.f79.name, by decide, Try.func79.trans (congrArg some (by kernel_rfl))⟩,
  f22 := ⟨Try.f80.name, by decide, Try.func80.trans (congrArg some (by kernel_rfl))⟩,
  f23 := ⟨Try.f81.name, by decide, Try.func81.trans (congrArg some (by kernel_rfl))⟩,
  f24 := ⟨Try.f82.name, by decide, Try.func82.trans (congrArg some (by kernel_rfl))⟩,
  f25 := ⟨Try.f83.name, by decide, Try.func83.trans (congrArg some (by kernel_rfl))⟩,
  f26 := ⟨Try.f84.name, by decide, Try.func84.trans (congrArg some (by kernel_rfl))⟩,
  f27 := ⟨Try.f85.name, by decide, Try.func85.trans (congrArg some (by kernel_rfl))⟩,
  f28 := Try.func86.trans (congrArg some (by kernel_rfl)),
  f29 := Try.func87.trans (congrArg some (by kernel_rfl)),
  f46 := ⟨Try.f89.name, by decide, Try.func89.trans (congrArg some (by kernel_rfl))⟩,
  f47 := Try.func90.trans (congrArg some (by kernel_rfl)),
  f48 := Try.func91.trans (congrArg some (by kernel_rfl)),
  f49 := ⟨Try.f92.name, by decide, Try.func92.trans (congrArg some (by kernel_rfl))⟩,
  f50 := ⟨Try.f93.name, by decide, Try.func93.trans (congrArg some (by kernel_rfl))⟩,
  f57 := ⟨Try.f94.name, by decide, Try.func94.trans (congrArg some (by kernel_rfl))⟩,
  t0 := Try.underlying0,
  a0 := Try.isAgg0,
  z0 := Try.sizeOf0,
  v0 := Try.zeroValue0,
  t3 := Try.underlying3,
  a3 := Try.isAgg3,
  z3 := Try.sizeOf3,
  v3 := Try.zeroValue3,
  t4 := Try.underlying4,
  a4 := Try.isAgg4,
  z4 := Try.sizeOf4,
  v4 := Try.zeroValue4,
  t5 := Try.underlying5,
  a5 := Try.isAgg5,
  z5 := Try.sizeOf5,
  v5 := Try.zeroValue5,
  t9 := Try.underlying9,
  a9 := Try.isAgg9,
  z9 := Try.sizeOf9,
  v9 := Try.zeroValue9,
  t22 := Try.underlying26,
  a22 := Try.isAgg26,
  z22 := Try.sizeOf26,
  v22 := Try.zeroValue26,
  t25 := Try.underlying74,
  a25 := Try.isAgg74,
  z25 := Try.sizeOf74,
  v25 := Try.zeroValue74,
  t39 := Try.underlying79,
  a39 := Try.isAgg79,
  z39 := Try.sizeOf79,
  v39 := Try.zeroValue79,
  t45 := Try.underlying98,
  a45 := Try.isAgg98,
  z45 := Try.sizeOf98,
  v45 := Try.zeroValue98,
  t46 := Try.underlying99,
  a46 := Try.isAgg99,
  z46 := Try.sizeOf99,
  v46 := Try.zeroValue99,
  t50 := Try.underlying103,
  a50 := Try.isAgg103,
  z50 := Try.sizeOf103,
  v50 := Try.zeroValue103,
  t53 := Try.underlying91,
  a53 := Try.isAgg91,
  z53 := Try.sizeOf91,
  v53 := Try.zeroValue91,
  t55 := Try.underlying94,
  a55 := Try.isAgg94,
  z55 := Try.sizeOf94,
  v55 := Try.zeroValue94,
  t66 := Try.underlying107,
  a66 := Try.isAgg107,
  z66 := Try.sizeOf107,
  v66 := Try.zeroValue107,
  t70 := Try.underlying111,
  a70 := Try.isAgg111,
  z70 := Try.sizeOf111,
  v70 := Try.zeroValue111,
  t76 := Try.underlying113,
  a76 := Try.isAgg113,
  z76 := Try.sizeOf113,
  v76 := Try.zeroValue113,
  t77 := Try.underlying76,
  a77 := Try.isAgg76,
  z77 := Try.sizeOf76,
  v77 := Try.zeroValue76 }
def layClone_ren : Go.Shelf.Ren := ⟨fun | 41 => 50 | n => n, fun | 22 => 26 | 23 => 50 | 4 => 4 | n => n, fun | n => n⟩
theorem layClone : Go.Proofs.SlLaysE0.n41 Try.prog layClone_ren := {
  mixed := by kernel_rfl,
  f41 := ⟨Try.f50.name, by decide, Try.func50.trans (congrArg some (by kernel_rfl))⟩,
  t4 := Try.underlying4,
  a4 := Try.isAgg4,
  z4 := Try.sizeOf4,
  v4 := Try.zeroValue4,
  t22 := Try.underlying26,
  a22 := Try.isAgg26,
  z22 := Try.sizeOf26,
  v22 := Try.zeroValue26 }
/-- what no way costs -/
def INF : Int := 1099511627776
theorem bstep_no {c s : Int} {a : Int × Bool} {x : Sd} (h : ¬ (x.1 = c ∧ x.2.1 = s ∧ (a.2 = false ∨ x.2.2 < a.1))) : bstep c s a x = a := if_neg h
theorem bstep_yes {c s : Int} {a : Int × Bool} {x : Sd} (h : x.1 = c ∧ x.2.1 = s ∧ (a.2 = false ∨ x.2.2 < a.1)) : bstep c s a x = (x.2.2, true) := if_pos h
theorem bst_next {inf c s : Int} {L : List Sd} {k : Nat} (h : k < L.length) : bst inf c s (L.take (k + 1)) = bstep c s (bst inf c s (L.take k)) (el L k) := by rw [take_el h, bst_snoc]

set_option maxHeartbeats 2000000 in
theorem best_any (a : Option Addr) (n c : Nat) (L : List Sd) (cl sd : Int) (w : World) (h : SlS w a n c L) :
    Calls Try.prog 54 #[.slice a n c, .int .i64 cl, .int .i64 sd] w fun e w' => e = .returned (.int .i64 (bst INF cl sd L).1) ∧ Gr w w' := by
  have hl := h.len.1
  have hb := h.len.2.1
  have hm := h.len.2.2
  unfold maxLen at hm
  have H := hide h
  have HL := hide hl
  clear h hl
  go_enter Try.func54, Try.ntmps54
  go_wp2_with fail
  go_loopw [7, 8, 13] (fun b f i u => ∃ (s : Nat), s ≤ n ∧ i = .int .i64 s ∧ b = .int .i64 (bst INF cl sd (L.take s)).1 ∧ f = .bool (bst INF cl sd (L.take s)).2 ∧ Gr w u) (fun _ _ i _ => n - (intOf i).toNat)
  case atStart => exact ⟨0, by omega, rfl, rfl, rfl, Gr.refl _⟩
  case round =>
    obtain ⟨s, hs, rfl, rfl, rfl, hg⟩ := hrel
    by_cases hsn : s < n
    · have hsn2 : (s : Int) < (n : Int) := by omega
      obtain ⟨B, o, rfl, hB, hc⟩ := H.out.at (by omega)
      obtain ⟨c1, c2, c3⟩ := hc s hsn
      replace c1 := cell_gr c1 hg
      replace c2 := cell_gr c2 hg
      replace c3 := cell_gr c3 hg
      have HX := hide (bst_next (inf := INF) (c := cl) (s := sd) (L := L) (k := s) (by rw [HL.out]; exact hsn))
      clear hc
      obtain ⟨⟨q1, q2, q3⟩, hq⟩ : ∃ q : Sd, q = el L s := ⟨_, rfl⟩
      rw [← hq] at c1 c2 c3 HX
      obtain ⟨⟨bv, bf⟩, hr⟩ : ∃ r : Int × Bool, r = bst INF cl sd (L.take s) := ⟨_, rfl⟩
      rw [← hr] at HX ⊢
      clear hq hr
      simp only at c1 c2 c3
      by_cases h1 : q1 = cl
      · have e1 : (q1 == cl) = true := by simp [h1]
        by_cases h2 : q2 = sd
        · have e2 : (q2 == sd) = true := by simp [h2]
          cases bf with
          | false =>
            rw [bstep_yes ⟨h1, h2, .inl rfl⟩] at HX
            clear h1 h2
            go_wp2_with fail
            go_roundw
            case rel => exact ⟨s + 1, hsn, by go_num, by rw [HX.out], by rw [HX.out], hg.alloc _⟩
            case measure => simp [intOf]; omega
          | true =>
            by_cases h3 : q3 < bv
            · rw [bstep_yes ⟨h1, h2, .inr h3⟩] at HX
              clear h1 h2
              go_wp2_with fail
              go_roundw
              case rel => exact ⟨s + 1, hsn, by go_num, by rw [HX.out], by rw [HX.out], hg.alloc _⟩
              case measure => simp [intOf]; omega
            · rw [bstep_no (fun k => k.2.2.elim (fun e => by cases e) h3)] at HX
              clear h1 h2
              go_wp2_with fail
              go_roundw
              case rel => exact ⟨s + 1, hsn, by go_num, by rw [HX.out], by rw [HX.out], hg.alloc _⟩
              case measure => simp [intOf]; omega
        · have e2 : (q2 == sd) = false := by simp [h2]
          rw [bstep_no (fun k => h2 k.2.1)] at HX
          clear h1 h2
          go_wp2_with fail
          go_roundw
          case rel => exact ⟨s + 1, hsn, by go_num, by rw [HX.out], by rw [HX.out], hg.alloc _⟩
          case measure => simp [intOf]; omega
      · have e1 : (q1 == cl) = false := by simp [h1]
        rw [bstep_no (fun k => h1 k.1)] at HX
        clear h1
        go_wp2_with fail
        go_roundw
        case rel => exact ⟨s + 1, hsn, by go_num, by rw [HX.out], by rw [HX.out], hg.alloc _⟩
        case measure => simp [intOf]; omega
    · have : s = n := by omega
      subst this
      have HT := hide (show L.take s = L from List.take_of_length_le (by rw [HL.out]; exact Nat.le_refl _))
      go_wp2
      go_ret
      rw [HT.out]
      exact ⟨rfl, hg⟩

set_option maxHeartbeats 2000000 in
theorem rbest_any (a : Option Addr) (n c : Nat) (L : List Sd) (cl sd : Int) (w : World) (h : SlS w a n c L) :
    Calls Try.prog 18 #[.slice a n c, .int .i64 cl, .int .i64 sd] w fun e w' => e = .returned (.int .i64 (bst INF cl sd L).1) ∧ Gr w w' := by
  have hl := h.len.1
  have hb := h.len.2.1
  have hm := h.len.2.2
  unfold maxLen at hm
  have H := hide h
  have HL := hide hl
  clear h hl
  go_enter Try.func18, Try.ntmps18
  go_wp2_with fail
  go_loopw [7, 8, 9] (fun b f i u => ∃ (s : Nat), s ≤ n ∧ i = .int .i64 s ∧ b = .int .i64 (bst INF cl sd (L.take s)).1 ∧ f = .bool (bst INF cl sd (L.take s)).2 ∧ Gr w u) (fun _ _ i _ => n - (intOf i).toNat)
  case atStart => exact ⟨0, by omega, rfl, rfl, rfl, Gr.refl _⟩
  case round =>
    obtain ⟨s, hs, rfl, rfl, rfl, hg⟩ := hrel
    by_cases hsn : s < n
    · have hsn2 : (s : Int) < (n : Int) := by omega
      obtain ⟨B, o, rfl, hB, hc⟩ := H.out.at (by omega)
      obtain ⟨c1, c2, c3⟩ := hc s hsn
      replace c1 := cell_gr c1 hg
      replace c2 := cell_gr c2 hg
      replace c3 := cell_gr c3 hg
      have HX := hide (bst_next (inf := INF) (c := cl) (s := sd) (L := L) (k := s) (by rw [HL.out]; exact hsn))
      clear hc
      obtain ⟨⟨q1, q2, q3⟩, hq⟩ : ∃ q : Sd, q = el L s := ⟨_, rfl⟩
      rw [← hq] at c1 c2 c3 HX
      obtain ⟨⟨bv, bf⟩, hr⟩ : ∃ r : Int × Bool, r = bst INF cl sd (L.take s) := ⟨_, rfl⟩
      rw [← hr] at HX ⊢
      clear hq hr
      simp only at c1 c2 c3
      by_cases h1 : q1 = cl
      · have e1 : (q1 == cl) = true := by simp [h1]
        by_cases h2 : q2 = sd
        · have e2 : (q2 == sd) = true := by simp [h2]
          cases bf with
          | false =>
            rw [bstep_yes ⟨h1, h2, .inl rfl⟩] at HX
            clear h1 h2
            go_wp2_with fail
            go_roundw
            case rel => exact ⟨s + 1, hsn, by go_num, by rw [HX.out], by rw [HX.out], hg⟩
            case measure => simp [intOf]; omega
          | true =>
            by_cases h3 : q3 < bv
            · rw [bstep_yes ⟨h1, h2, .inr h3⟩] at HX
              clear h1 h2
              go_wp2_with fail
              go_roundw
              case rel => exact ⟨s + 1, hsn, by go_num, by rw [HX.out], by rw [HX.out], hg⟩
              case measure => simp [intOf]; omega
            · rw [bstep_no (fun k => k.2.2.elim (fun e => by cases e) h3)] at HX
              clear h1 h2
              go_wp2_with fail
              go_roundw
              case rel => exact ⟨s + 1, hsn, by go_num, by rw [HX.out], by rw [HX.out], hg⟩
              case measure => simp [intOf]; omega
        · have e2 : (q2 == sd) = false := by simp [h2]
          rw [bstep_no (fun k => h2 k.2.1)] at HX
          clear h1 h2
          go_wp2_with fail
          go_roundw
          case rel => exact ⟨s + 1, hsn, by go_num, by rw [HX.out], by rw [HX.out], hg⟩
          case measure => simp [intOf]; omega
      · have e1 : (q1 == cl) = false := by simp [h1]
        rw [bstep_no (fun k => h1 k.1)] at HX
        clear h1
        go_wp2_with fail
        go_roundw
        case rel => exact ⟨s + 1, hsn, by go_num, by rw [HX.out], by rw [HX.out], hg⟩
        case measure => simp [intOf]; omega
    · have : s = n := by omega
      subst this
      have HT := hide (show L.take s = L from List.take_of_length_le (by rw [HL.out]; exact Nat.le_refl _))
      go_wp2
      go_ret
      rw [HT.out]
      exact ⟨rfl, hg⟩

/-- the model's '==' at a seed -/
theorem eql_seed (x y : Sd) (w : World) : Sem.run Try.prog (binOp .eql 50 (.agg (encS x).toArray) (.agg (encS y).toArray)) w = .ok (.bool (decide (x = y))) w := by
  have u3 := Try.underlying3
  have a3 := Try.isAgg3
  have z3 := Try.sizeOf3
  have hS : Try.prog.underlying 50 = some (.struct (Try.prog.fieldsOf 50)) := by kernel_rfl
  have hp : Try.prog.stoodInHeld 50 = false := by kernel_rfl
  obtain ⟨a, b, c⟩ := x
  obtain ⟨d, e, f⟩ := y
  simp only [encS]
  rw [run_eql_struct, show (10000 : Nat) = 9999 + 1 from rfl, run_equalIn_agg w 9999 50 _ _ hS hp]
  simp only [Program.fieldsOf, Try.underlying50]
  go_simp
  by_cases h1 : a = d <;> by_cases h2 : b = e <;> by_cases h3 : c = f <;> simp [h1, h2, h3]

theorem neq_seed (x y : Sd) (w : World) : Sem.run Try.prog (binOp .neq 50 (.agg (encS x).toArray) (.agg (encS y).toArray)) w = .ok (.bool (!decide (x = y))) w := by
  have u3 := Try.underlying3
  have a3 := Try.isAgg3
  have z3 := Try.sizeOf3
  have hS : Try.prog.underlying 50 = some (.struct (Try.prog.fieldsOf 50)) := by kernel_rfl
  have hp : Try.prog.stoodInHeld 50 = false := by kernel_rfl
  obtain ⟨a, b, c⟩ := x
  obtain ⟨d, e, f⟩ := y
  simp only [encS]
  rw [run_neq_struct, show (10000 : Nat) = 9999 + 1 from rfl, run_equalIn_agg w 9999 50 _ _ hS hp]
  simp only [Program.fieldsOf, Try.underlying50]
  go_simp
  by_cases h1 : a = d <;> by_cases h2 : b = e <;> by_cases h3 : c = f <;> simp [h1, h2, h3]
theorem el_ext {L M : List Sd} {n : Nat} (h : L.length = n) (g : M.length = n) (e : ∀ j, j < n → el L j = el M j) : L = M := by
  apply List.ext_getElem (by rw [h, g])
  intro i h1 h2
  rw [el_getElem h1, el_getElem h2]
  exact e i (by omega)

end Go.Proofs.Ytlnbolaaaahoaaa
