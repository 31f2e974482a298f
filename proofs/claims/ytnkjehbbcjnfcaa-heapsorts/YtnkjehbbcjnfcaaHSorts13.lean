/- HeapSorts: all that went in comes out, as often, sorted. The walk. -/
import Derived.Test.YtnkjehbbcjnfcaaHSBase13
namespace Go.Proofs.Ytnkjehbbcjnfcaa
open Go.RowKit
set_option maxRecDepth 20000

set_option maxHeartbeats 8000000 in
theorem heapSorts_any (ad ae : Option Addr) (n cap m kc : Nat) (f g : Nat → Int) (b : Bool) (w : World) (h : SlI w ad n f) (h2 : SlI w ae m g) (hf : ∀ i, -9223372036854775808 ≤ f i) (hg : ∀ i, -9223372036854775808 ≤ g i) :
    Calls Try.prog 4 #[.slice ad n cap, .slice ae m kc, .bool b] w fun e w' => e = .returned (.bool true) ∧ Gr w w' := by
  have HH := hide h
  have HH2 := hide h2
  have HG := hide (fun i => goes_low b hf hg i)
  clear h h2 hf hg
  go_enter Try.func4, Try.ntmps4
  go_wp2_with fail
  refine (snew (PB := fun t => (Value.slice none 0 0).ownBlock = some t) (Gr.refl w) (fun k hk => by cases hk)).mono ?_
  rintro e w4 ⟨⟨p, rfl, hA⟩, -⟩
  go_wp2_with fail
  go_loopw [8, 9] (fun v i u => ∃ k : Nat, i = .int .i64 k ∧ k ≤ 100 ∧ LstH w u p v (inE (goesE b f g) k)) (fun _ i _ => 100 - (intOf i).toNat)
  case atStart => exact ⟨0, rfl, Nat.zero_le _, hA, World.ownsRow_nil _ _ _ _⟩
  case round =>
    clear hA
    obtain ⟨k, rfl, hk, hL⟩ := hrel
    go_upto_region 6 with fail
    go_cut [41] from 28 to 74 (fun s u => s = .bool (decide (k < n ∧ k < m ∧ k < 100)) ∧ u = wr)
    case first =>
      by_cases h1 : k < n
      · have t1 : (k : Int) < (n : Int) := by omega
        by_cases h2 : k < m
        · have t2 : (k : Int) < (m : Int) := by omega
          by_cases h3 : k < 100
          · have t3 : (k : Int) < 100 := by omega
            go_wp2_with fail
            go_meet
            exact ⟨by simp [h1, h2, h3], rfl⟩
          · have t3 : ¬ (k : Int) < 100 := by omega
            go_wp2_with fail
            go_meet
            exact ⟨by simp [h3], rfl⟩
        · have t2 : ¬ (k : Int) < (m : Int) := by omega
          go_wp2_with fail
          go_meet
          exact ⟨by simp [h2], rfl⟩
      · have t1 : ¬ (k : Int) < (n : Int) := by omega
        go_wp2_with fail
        go_meet
        exact ⟨by simp [h1], rfl⟩
    case rest =>
      obtain ⟨rfl, hwc⟩ := hcut
      subst hwc
      by_cases hdo : k < n ∧ k < m ∧ k < 100
      · rw [decide_eq_true hdo]
        obtain ⟨k1, k2, k3⟩ := hdo
        generalize wc = wk at *
        have hgr : Gr w wk := hL.1.g
        obtain ⟨ba, oa, rfl, -, hca⟩ := (HH.out.gr hgr).at (by omega)
        obtain ⟨bb, ob, rfl, -, hcb⟩ := (HH2.out.gr hgr).at (by omega)
        have ca := hca k k1
        have cb := hcb k k2
        have t1 : (k : Int) < (n : Int) := by omega
        have t2 : (k : Int) < (m : Int) := by omega
        have HL := hide hL
        obtain ⟨e0, he0⟩ : ∃ e0, e0 = goesE b f g k := ⟨_, rfl⟩
        have HE0 := hide he0
        have HE : Hid (e0 = if b then (withinF (f k) 0 5, withinF (g k) 0 5) else (f k, g k)) := hide he0
        clear hca hcb hL he0
        generalize f k = fk at *
        generalize g k = gk at *
        go_wp2_with fail
        go_region_held3 (fun u => u.cell? ⟨ba, oa + k, none⟩ = some (.int .i64 fk) ∧ u.cell? ⟨bb, ob + k, none⟩ = some (.int .i64 gk)) (exact ⟨cell_gr ca (by (repeat (first | (with_reducible exact Gr.refl _) | (with_reducible assumption) | (with_reducible refine Gr.alloc ?_ _) | (with_reducible refine Gr.drew ?_) | (with_reducible refine Gr.set ?_ (by dsimp only; omega) _) | (with_reducible refine Gr.trans ?_ (by with_reducible assumption)))); first | done | fail), cell_gr cb (by (repeat (first | (with_reducible exact Gr.refl _) | (with_reducible assumption) | (with_reducible refine Gr.alloc ?_ _) | (with_reducible refine Gr.drew ?_) | (with_reducible refine Gr.set ?_ (by dsimp only; omega) _) | (with_reducible refine Gr.trans ?_ (by with_reducible assumption)))); first | done | fail)⟩) (fail)
        obtain ⟨BX, hBX⟩ : ∃ BX, BX = wk.heap.size := ⟨_, rfl⟩
        obtain ⟨u1, hu1⟩ : ∃ u1, u1 = (wk.alloc (.cells #[.int .i64 fk, .int .i64 gk] 30)).drew := ⟨_, rfl⟩
        have hB : u1.rowIs BX 30 2 (boxF (.int .i64 fk) (.int .i64 gk)) := by rw [hu1, hBX]; exact row_gr (box_alloc wk _ _ _) (Gr.refl _).drew
        have hg1 : Gr wk u1 := by rw [hu1]; exact ((Gr.refl wk).alloc _).drew
        rw [← hu1, ← hBX]
        have zz : wk.heap.size ≤ BX := by omega
        clear hBX hu1
        obtain ⟨x0, x1, xf⟩ := box_at hB
        have HB := hide hB
        clear hB
        go_upto_if 53 with fail
        go_cut [] from 44 to 74 (fun u => u.rowIs BX 30 2 (boxF (.int .i64 e0.1) (.int .i64 e0.2)) ∧ Gr wk u)
        case first =>
          cases b
          · go_wp2_with fail
            go_meet
            exact ⟨by rw [HE.out]; exact HB.out, hg1⟩
          · go_wp2_with fail
            go_region_held3 (fun u => u.cell? ⟨ba, oa + k, none⟩ = some (.int .i64 fk) ∧ u.cell? ⟨bb, ob + k, none⟩ = some (.int .i64 gk)) (exact ⟨cell_gr ca (by (repeat (first | (with_reducible exact Gr.refl _) | (with_reducible assumption) | (with_reducible refine Gr.alloc ?_ _) | (with_reducible refine Gr.drew ?_) | (with_reducible refine Gr.set ?_ (by dsimp only; omega) _) | (with_reducible refine Gr.trans ?_ (by with_reducible assumption)))); first | done | fail), cell_gr cb (by (repeat (first | (with_reducible exact Gr.refl _) | (with_reducible assumption) | (with_reducible refine Gr.alloc ?_ _) | (with_reducible refine Gr.drew ?_) | (with_reducible refine Gr.set ?_ (by dsimp only; omega) _) | (with_reducible refine Gr.trans ?_ (by with_reducible assumption)))); first | done | fail)⟩) (first | (go_at_call 8; refine (within_st _ _ _ _ (by omega) (by omega) (by omega)).mono ?_; rintro e w8 ⟨rfl, rfl⟩))
            all_goals
              go_wp2_with fail
              go_meet
              exact ⟨by rw [HE.out]; exact row_gr (box_set _ _ HB.out) (Gr.refl _).drew, (gr_set2 _ _ hg1 zz).drew⟩
        case rest =>
          obtain ⟨hB, hg2⟩ := hcut
          clear HB hg1 x0 x1 xf
          obtain ⟨x0, x1, xf⟩ := box_at hB
          have hl2 := HL.out.gr hg2
          have hown := hl2.2
          have hS := HL.out.1.more hg2 (PC := fun t => u8.ownBlock = some t ∨ t = BX) (fun t ht => by
            rcases ht with ht | rfl
            · exact ⟨.inl ht, (hown.lt t ht).2⟩
            · exact ⟨.inr zz, hB.lt⟩)
          have HLo := hide (HL.out.2.lt)
          clear hl2
          go_wp2_with fail
          refine (spush hS e0.1 e0.2 (by rw [srt_len]; omega)).mono ?_
          rintro e w5 ⟨rfl, hS5, hk5⟩
          replace hB := hk5.row hB (fun h => h (.inr rfl))
          replace hown := own_kp hown hk5 (fun t ht h => h (.inl ht))
          clear hS hk5 x0 x1 xf
          obtain ⟨x0, x1, xf⟩ := box_at hB
          have hsz := hS5.g.size
          have hlen : (inE (goesE b f g) k).length ≤ 1000000 := by rw [inE_len]; omega
          go_wp2_with (at_builtin; refine wpList_two 25 30 Try.underlying25 info_duo rfl _ _ rfl (own_grP hown ((Gr.refl w5).alloc _)) hlen (by rw [World.size_alloc]; omega) rfl w5.heap.size e0.1 e0.2 rfl (alloc_two _ _ _ _) ?_; intro a1 c1 w6 hown6 hob6 hkp6)
          go_roundw
          case rel =>
            refine ⟨k + 1, by go_num, by omega, ?_⟩
            refine ⟨?_, ?_⟩
            · rw [srt_succ, ← HE0.out]
              exact (hS5.gr ((Gr.refl w5).alloc _)).move hkp6 (fun b hb => ⟨.inl hb, (hown.lt b hb).1⟩) (fun t ht => ⟨(hob6 t ht).imp .inl id, (hown6.lt t ht).2⟩)
            · rw [inE_succ, ← HE0.out, List.length_append]
              exact hown6
          case measure => simp [intOf]; omega
      · rw [decide_eq_false hdo]
        clear hdo
        generalize wc = wk at *
        obtain ⟨al, cl, rfl, -⟩ := PlS.of_own hL.2
        obtain ⟨L, hLe⟩ : ∃ L, L = inE (goesE b f g) k := ⟨_, rfl⟩
        have HE : Hid (∀ i, i < k → elP L i = goesE b f g i) := hide fun i hi => by rw [hLe]; exact inE_at _ hi
        have HLl : Hid (L.length = k) := hide (by rw [hLe, inE_len])
        obtain ⟨S, hS⟩ : ∃ S, S = srtP L := ⟨_, rfl⟩
        have HSl : Hid (S.length = k) := hide (by rw [hS, srtP_len]; exact HLl.out)
        have HSs : Hid (∀ j, j < k → LeP (lastP S j) (elP S j)) := hide fun j hj => by
          refine lastP_le (by rw [hS]; exact srtP_srt L) (fun y hy => ?_) (by rw [HSl.out]; exact hj)
          rw [hS, (srtP_perm L).mem_iff, hLe] at hy
          obtain ⟨i, -, rfl⟩ := List.mem_map.1 hy
          exact HG.out i
        have HLf : Hid (Left (goesE b f g) k (fun _ => false) S) := hide (by rw [hS, hLe]; exact left_start _ k)
        rw [← hLe] at hL
        unfold LstH at hL
        rw [← hS, HLl.out] at hL
        have hlv : (inE (goesE b f g) k).length = k := inE_len _ _
        rw [hlv]
        clear hS hLe hlv
        generalize goesE b f g = ef at *
        have HO := hide (oth_start hL.1 hL.2)
        clear hL
        have hmk := make_met k (by omega)
        go_wp2_with fail
        obtain ⟨u0, hu0⟩ : ∃ u0, u0 = ((wk.alloc (.cells (madeCells #[.bool false] k) 4)).alloc (.cells #[.int .i64 (-9223372036854775808), .int .i64 (-9223372036854775808)] 30)) := ⟨_, rfl⟩
        rw [← hu0] at HO ⊢
        obtain ⟨gm, hgm⟩ : ∃ gm, gm = wk.heap.size := ⟨_, rfl⟩
        obtain ⟨BX, hBX⟩ : ∃ BX, BX = wk.heap.size + 1 := ⟨_, rfl⟩
        rw [← hBX, ← hgm] at HO
        rw [← hBX, ← hgm]
        clear hgm hBX hu0 hmk
        go_loopw [13] (fun nv u => ∃ (j : Nat) (met : Nat → Bool), nv = .int .i64 j ∧ j ≤ k ∧ Oth w u p (.slice al k cl) k L (S.drop j) met gm BX (lastP S j) ∧ Left ef k met (S.drop j)) (fun nv _ => k - (intOf nv).toNat)
        case atStart => exact ⟨0, fun _ => false, rfl, Nat.zero_le _, HO.out, HLf.out⟩
        case round =>
          clear HO HLf
          obtain ⟨j, met, rfl, hj, hO, hLf⟩ := hrel
          by_cases hlt : j < k
          · have hjI : (j : Int) < (k : Int) := by omega
            have hle := HSs.out j hlt
            obtain ⟨y, hy⟩ : ∃ y, y = elP S j := ⟨_, rfl⟩
            have hdl : (S.drop (j + 1)).length ≤ 999999 := by rw [List.length_drop, HSl.out]; omega
            have hdr := drop_at (L := S) (i := j) (by rw [HSl.out]; exact hlt)
            rw [← hy] at hdr hle
            rw [hdr] at hO hLf
            have HY := hide hy
            have HLf := hide hLf
            clear hy hdr hLf
            go_wp2_with fail
            refine (stop hO.hs).mono ?_
            rintro e w5 ⟨rfl, hg5⟩
            replace hO := hO.gr hg5
            clear hg5
            go_wp2_with fail
            refine (spop hO.hs hdl).mono ?_
            rintro e w6 ⟨rfl, hs6, hk6⟩
            replace hO := hO.kp hs6 hk6
            clear hs6 hk6
            generalize lastP S j = la at *
            obtain ⟨x0, x1, xf⟩ := box_at hO.box
            go_upto_region 20 with fail
            go_cut [130] from 97 to 152 (fun s u => s = .bool false ∧ u = w6)
            case first =>
              unfold LeP at hle
              by_cases h1 : y.1 = la.1
              · have e1 : (y.1 == la.1) = true := by simpa using h1
                have e2 : ¬ y.1 < la.1 := by omega
                have e3 : ¬ y.2 < la.2 := by omega
                clear h1
                go_wp2_with fail
                go_meet
                exact ⟨rfl, rfl⟩
              · have e1 : (y.1 == la.1) = false := by simpa using h1
                have e2 : ¬ y.1 < la.1 := by omega
                go_wp2_with fail
                go_meet
                exact ⟨rfl, rfl⟩
            case rest =>
              obtain ⟨rfl, rfl⟩ := hcut
              clear hle x0 x1 xf
              have HO := hide hO
              clear hO
              go_wp2_with fail
              go_loopw [20, 21] (fun av iv u => ∃ i : Nat, iv = .int .i64 i ∧ i ≤ k ∧ av = .int .i64 (lastAt (asks ef met y) i) ∧ u = wc) (fun _ iv _ => k - (intOf iv).toNat)
              case atStart => exact ⟨0, rfl, Nat.zero_le _, rfl, rfl⟩
              case round =>
                obtain ⟨i, rfl, hi, rfl, rfl⟩ := hrel
                by_cases hik : i < k
                · have hiI : (i : Int) < (k : Int) := by omega
                  obtain ⟨gl, cl2, e, -, hgc⟩ := World.ownsRow.form HO.out.row (by omega)
                  cases e
                  have hr := HO.out.row
                  have q := flatP_get L i (elP L i) (elP_get? (by rw [HLl.out]; exact hik))
                  have c1 := (hr.cellAt (i * 2) (by omega)).trans q.1
                  have c2 := (hr.cellAt (i * 2 + 1) (by omega)).trans q.2
                  rw [HE.out i hik] at c1 c2
                  have cm := HO.out.met.cell hik
                  clear hr q
                  have hes := fun (v : Bool) (hv : decide (ef i = y) = v) (u : World) => eql_is (a := (ef i).1) (b := (ef i).2) (c := y.1) (d := y.2) hv u
                  cases hm : met i
                  · rw [hm] at cm
                    cases hd : decide (ef i = y)
                    · have he := hes _ hd
                      have HA : Hid (lastAt (asks ef met y) (i + 1) = lastAt (asks ef met y) i) := hide (by rw [lastAt, if_neg (by simp [asks, hm, hd])])
                      clear hes hd hm
                      go_wp2_with fail
                      go_roundw
                      case rel => exact ⟨i + 1, by go_num, by omega, by rw [HA.out], trivial⟩
                      case measure => simp [intOf]; omega
                    · have he := hes _ hd
                      have HA : Hid (lastAt (asks ef met y) (i + 1) = (i : Int)) := hide (by rw [lastAt, if_pos (by simp [asks, hm, hd])])
                      clear hes hd hm
                      go_wp2_with fail
                      go_roundw
                      case rel => exact ⟨i + 1, by go_num, by omega, by rw [HA.out], trivial⟩
                      case measure => simp [intOf]; omega
                  · rw [hm] at cm
                    have HA : Hid (lastAt (asks ef met y) (i + 1) = lastAt (asks ef met y) i) := hide (by rw [lastAt, if_neg (by simp [asks, hm])])
                    clear hes hm
                    go_wp2_with fail
                    go_roundw
                    case rel => exact ⟨i + 1, by go_num, by omega, by rw [HA.out], trivial⟩
                    case measure => simp [intOf]; omega
                · obtain rfl : i = k := by omega
                  obtain ⟨i0, hi0, hi1⟩ := left_has HLf.out
                  obtain ⟨a, ha, haa, hla⟩ := lastAt_has (asks ef met y) i i0 hi0 hi1
                  rw [hla]
                  have HN := hide (left_turn HLf.out ha haa)
                  clear hi0 hi1 hla haa
                  have HOn := hide (HO.out.next a y)
                  have haI : (a : Int) < (i : Int) := by omega
                  have cm := HO.out.met.cell ha
                  have fm := HO.out.met.frozen a
                  obtain ⟨x0, x1, xf⟩ := box_at HO.out.box
                  have hgb := HO.out.lt
                  have hne1 : ¬ gm = BX := by omega
                  have hne2 : ¬ BX = gm := by omega
                  have hl2 : Hid (lastP S (j + 1) = y) := hide (by rw [HY.out]; rfl)
                  clear HO
                  go_wp2_with fail
                  go_roundw
                  case rel => exact ⟨j + 1, _, by go_num, by omega, by rw [hl2.out]; exact HOn.out, HN.out⟩
                  case measure => simp [intOf]; omega
          · obtain rfl : j = k := by omega
            rw [List.drop_of_length_le (by rw [HSl.out]; exact Nat.le_refl _)] at hO
            clear hLf
            go_wp2_with fail
            refine (spop_no hO.hs).mono ?_
            rintro e w5 ⟨rfl, rfl⟩
            go_wp2_with fail
            refine (told13_any _).mono ?_
            rintro e w6 ⟨rfl, hg⟩
            replace hO := hO.gr hg
            clear hg
            go_wp2_with fail
            refine (slen hO.hs).mono ?_
            rintro e w7 ⟨rfl, rfl⟩
            go_wp2_with fail
            go_ret
            exact ⟨rfl, hO.hs.g⟩
end Go.Proofs.Ytnkjehbbcjnfcaa
