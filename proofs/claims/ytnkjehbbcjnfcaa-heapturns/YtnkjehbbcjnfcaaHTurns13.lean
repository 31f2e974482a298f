/- HeapTurns: in whatever order the same goes in, the same comes out. The walk. -/
import Derived.Test.YtnkjehbbcjnfcaaHTwo13
import Derived.Test.YtnkjehbbcjnfcaaHRow13
namespace Go.Proofs.Ytnkjehbbcjnfcaa
open Go.RowKit
set_option maxRecDepth 20000

/-- the first k that go into the one heap, and into the other one -/
def inA (f : Nat → Int) (k : Nat) : List (Int × Int) := (List.range k).map fun i => (f i, (i : Int))
def inB (f : Nat → Int) (n N k : Nat) : List (Int × Int) := (List.range k).map fun i => (f ((i + n) % N), (((i + n) % N : Nat) : Int))
theorem inA_succ (f : Nat → Int) (k : Nat) : srtP (inA f (k + 1)) = insP (f k, (k : Int)) (srtP (inA f k)) := by rw [← srtP_app]; simp [inA, List.range_succ]
theorem inB_succ (f : Nat → Int) (n N k : Nat) : srtP (inB f n N (k + 1)) = insP (f ((k + n) % N), (((k + n) % N : Nat) : Int)) (srtP (inB f n N k)) := by rw [← srtP_app]; simp [inB, List.range_succ]
theorem inA_len (f : Nat → Int) (k : Nat) : (srtP (inA f k)).length = k := by rw [srtP_len]; simp [inA]
theorem inB_len (f : Nat → Int) (n N k : Nat) : (srtP (inB f n N k)).length = k := by rw [srtP_len]; simp [inB]
theorem in_same (f : Nat → Int) (n N : Nat) (h : n ≤ N) : srtP (inB f n N N) = srtP (inA f N) := srtP_eq (rot_perm (fun i => (f i, (i : Int))) n N h)

set_option maxHeartbeats 4000000 in
theorem heapTurns_any (ad : Option Addr) (n cap : Nat) (f : Nat → Int) (turn : Int) (w : World) (h : SlI w ad n f) (hc : n ≤ cap) (hnil : ad = none → n = 0 ∧ cap = 0) :
    Calls Try.prog 5 #[.slice ad n cap, .int .i64 turn] w fun e w' => e = .returned (.bool true) ∧ Gr w w' := by
  have HH := hide h
  clear h
  go_enter Try.func5, Try.ntmps5
  go_upto_region 1 with fail
  go_cut [5] from 18 (fun l u => ∃ N : Nat, N ≤ 60 ∧ N ≤ n ∧ l = .slice ad N cap ∧ u = w)
  case first =>
    go_wp2_with fail
    all_goals go_meet
    · exact ⟨60, by omega, by omega, rfl, rfl⟩
    · exact ⟨n, by omega, by omega, rfl, rfl⟩
  case rest =>
    obtain ⟨N, hN, hNn, rfl, hu⟩ := hcut
    obtain rfl : w = wc := hu.symm
    go_wp2_with fail
    refine (within_any turn 0 (N : Int) _ (by omega) (by omega) (by omega)).mono ?_
    rintro e w3 ⟨rfl, hd3⟩
    obtain ⟨b1, b2⟩ := within_bd turn 0 (N : Int) (by omega)
    obtain ⟨t, ht'⟩ : ∃ t : Nat, withinF turn 0 (N : Int) = (t : Int) := ⟨_, (Int.toNat_of_nonneg b1).symm⟩
    rw [ht'] at b1 b2 ⊢
    have ht : t ≤ N := by omega
    clear ht' b1 b2
    go_wp2_with fail
    refine (snew (PB := fun _ => False) hd3.gr (fun k hk => hk.elim)).mono ?_
    rintro e w4 ⟨⟨p, rfl, hA⟩, -⟩
    go_wp2_with fail
    refine (two_new hA).mono ?_
    rintro e w5 ⟨q, rfl, hT⟩
    clear hA hd3
    go_wp2_with fail
    go_loopw [9] (fun i u => ∃ k : Nat, i = .int .i64 k ∧ k ≤ N ∧ Two w u p (srtP (inA f k)) q (srtP (inB f t N k))) (fun i _ => N - (intOf i).toNat)
    case atStart => exact ⟨0, rfl, Nat.zero_le _, hT⟩
    case round =>
      obtain ⟨k, rfl, hk, hT⟩ := hrel
      by_cases hlt : k < N
      · have hkI : (k : Int) < (N : Int) := by omega
        have hN0 : ¬ (N : Int) = 0 := by omega
        obtain ⟨b, o, rfl, -, hcell⟩ := (HH.out.gr hT.g).at (by omega)
        obtain ⟨j, hj⟩ : ∃ j, j = (k + t) % N := ⟨_, rfl⟩
        have hjN : j < N := by rw [hj]; exact Nat.mod_lt _ (by omega)
        have hjn : j < n := by omega
        have hjI : (j : Int) < (N : Int) := by omega
        have HJ : Hid (((k : Int) + (t : Int)) % (N : Int) = (j : Int)) := hide (by rw [hj, Int.natCast_emod, Int.natCast_add])
        have HJ2 := hide hj
        have ck := hcell k (by omega)
        have cj := hcell j (by omega)
        clear hj hcell
        go_wp2_with fail
        rw [HJ.out]
        refine (pushA hT (f k) k (by rw [inA_len]; omega)).mono ?_
        rintro e w6 ⟨rfl, hT2⟩
        rw [← inA_succ] at hT2
        replace cj : w6.cell? ⟨b, o + j, none⟩ = some (.int .i64 (f j)) := by
          obtain ⟨b', o', e, -, hc⟩ := (HH.out.gr hT2.g).at (by omega)
          cases e
          exact hc j hjn
        go_wp2_with fail
        refine (pushB hT2 (f j) j (by rw [inB_len]; omega)).mono ?_
        rintro e w7 ⟨rfl, hT3⟩
        rw [HJ2.out, ← inB_succ] at hT3
        clear hT hT2 ck cj
        go_wp2_with fail
        go_roundw
        case rel => exact ⟨k + 1, by go_num, by omega, hT3⟩
        case measure => simp [intOf]; omega
      · obtain rfl : N = k := by omega
        rw [in_same f t N ht] at hT
        obtain ⟨Z, hZ⟩ : ∃ Z, Z = srtP (inA f N) := ⟨_, rfl⟩
        have hZl : Hid (Z.length = N) := hide (by rw [hZ, inA_len])
        rw [← hZ] at hT
        clear hZ
        go_wp2_with fail
        go_loopw [11] (fun i u => ∃ k : Nat, i = .int .i64 k ∧ k ≤ N ∧ Two w u p (Z.drop k) q (Z.drop k)) (fun i _ => N - (intOf i).toNat)
        case atStart => exact ⟨0, rfl, Nat.zero_le _, hT⟩
        case round =>
          clear hT
          obtain ⟨k, rfl, hk, hT⟩ := hrel
          by_cases hlt : k < N
          · have hkI : (k : Int) < (N : Int) := by omega
            have hl := hZl.out
            rw [drop_at (by omega)] at hT
            have hd : (Z.drop (k + 1)).length ≤ 999999 := by rw [List.length_drop]; omega
            clear hl
            go_wp2_with fail
            refine (popA hT hd).mono ?_
            rintro e w6 ⟨rfl, hT2⟩
            go_wp2_with fail
            refine (popB hT2 hd).mono ?_
            rintro e w7 ⟨rfl, hT3⟩
            clear hT hT2 hd
            go_wp2_with fail
            go_roundw
            case rel => exact ⟨k + 1, by go_num, by omega, hT3⟩
            case measure => simp [intOf]; omega
          · obtain rfl : N = k := by omega
            rw [List.drop_of_length_le (by rw [hZl.out]; exact Nat.le_refl _)] at hT
            go_wp2_with fail
            refine (told13_any _).mono ?_
            rintro e w8 ⟨rfl, hg⟩
            replace hT := hT.gr hg
            clear hg
            go_wp2_with fail
            refine (lenA hT).mono ?_
            rintro e w9 ⟨rfl, rfl⟩
            go_wp2_with fail
            refine (lenB hT).mono ?_
            rintro e w9 ⟨rfl, rfl⟩
            go_wp2_with fail
            go_ret
            exact ⟨rfl, hT.g⟩
end Go.Proofs.Ytnkjehbbcjnfcaa
