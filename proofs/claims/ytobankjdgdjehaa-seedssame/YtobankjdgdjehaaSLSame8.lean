/- SeedsSame's walk: it answers true at every input; nothing that was there is written. -/
import Derived.Test.YtobankjdgdjehaaSTold8
namespace Go.Proofs.Ytobankjdgdjehaa
open Go.RowKit
set_option maxRecDepth 20000

theorem flatS_setK : ∀ (L : List Sd) (i : Nat) (K : Int), i < L.length → (flatS L).set (i * 3 + 2) (.int .i64 K) = flatS (L.set i ((el L i).1, (el L i).2.1, K))
  | [], i, K, h => absurd h (Nat.not_lt_zero _)
  | e :: L, 0, K, h => rfl
  | e :: L, i + 1, K, h => by
    have ih := flatS_setK L i K (by simpa using h)
    rw [List.set_cons_succ, flatS_cons, flatS_cons, show (i + 1) * 3 + 2 = i * 3 + 2 + 1 + 1 + 1 by omega, List.set_cons_succ, List.set_cons_succ, List.set_cons_succ, ih]
    rfl
theorem dec_comm (L M : List Sd) : decide (M = L) = decide (L = M) := by
  rw [decide_eq_decide]
  exact eq_comm

theorem few_l (a : Option Addr) (n c : Nat) (L : List Sd) (w : World) (h : SlS w a n c L) :
    Calls Try.prog 10 #[.slice a n c] w fun e w' => (∃ a' c' m, e = .returned (.slice a' m c') ∧ m ≤ 60 ∧ Hid ((L.take 60).length = m) ∧ w'.ownsRow w.heap.size 38 3 (.slice a' m c') m (flatS (L.take 60)) ∧ SlS w' a' m c' (L.take 60)) ∧ Gr w w' := by
  refine Calls.mono (few_any a n c L w h) fun e w1 he => ?_
  obtain ⟨⟨a1, c1, n1, hn1, rfl, hown1⟩, hg1⟩ := he
  have k1 : (L.take 60).length = n1 := by rw [List.length_take, h.len.1, hn1]; omega
  obtain ⟨_, _, e1, s1⟩ := SlS.of_own hown1 k1
  cases e1
  exact ⟨⟨a1, c1, n1, rfl, by omega, k1, hown1, s1⟩, hg1⟩

set_option maxHeartbeats 2000000 in
theorem seedsSame_any (a : Option Addr) (n c : Nat) (L : List Sd) (b : Option Addr) (m d : Nat) (M : List Sd) (at_ by_ : Int) (one : Bool) (w : World) (h : SlS w a n c L) (g : SlS w b m d M) :
    Calls Try.prog 6 #[.slice a n c, .slice b m d, .int .i64 at_, .int .i64 by_, .bool one] w fun e w' => e = .returned (.bool true) ∧ Gr w w' := by
  go_enter Try.func6, Try.ntmps6
  go_wp2_with fail
  refine (few_l a n c L w h).mono ?_
  rintro e w1 ⟨⟨a1, c1, n1, rfl, q1, k1, hown1, s1⟩, hg1⟩
  go_wp2_with fail
  refine (few_l b m d M w1 (g.gr hg1)).mono ?_
  rintro e w2 ⟨⟨a2, c2, n2, rfl, q2, k2, hown2, s2⟩, hg2⟩
  replace s1 := s1.gr hg2
  have hgr := hg1.trans hg2
  cases one with
  | false =>
    clear hown1 hown2 hg1 hg2 h g k1 k2
    generalize L.take 60 = L1 at *
    generalize M.take 60 = M1 at *
    go_wp2_with fail
    refine (told8_any _).mono ?_
    rintro e u3 ⟨rfl, hg3⟩
    replace s1 := s1.gr hg3
    replace s2 := s2.gr hg3
    replace hgr := hgr.trans hg3
    clear hg3
    go_wp2_with fail
    refine (same_any _ _ _ _ _ _ _ _ _ s1 s2).mono ?_
    rintro e u4 ⟨rfl, hg4⟩
    replace s1 := s1.gr hg4
    replace s2 := s2.gr hg4
    replace hgr := hgr.trans hg4
    clear hg4
    go_wp2_with fail
    refine (rsame_any _ _ _ _ _ _ _ _ _ s1 s2).mono ?_
    rintro e u5 ⟨rfl, hg5⟩
    replace s1 := s1.gr hg5
    replace s2 := s2.gr hg5
    replace hgr := hgr.trans hg5
    clear hg5
    go_wp2_with fail
    refine (same_any _ _ _ _ _ _ _ _ _ s2 s1).mono ?_
    rintro e u6 ⟨rfl, hg6⟩
    replace s1 := s1.gr hg6
    replace s2 := s2.gr hg6
    replace hgr := hgr.trans hg6
    clear hg6
    rw [dec_comm]
    go_wp2_with fail
    refine (same_any _ _ _ _ _ _ _ _ _ s1 s2).mono ?_
    rintro e u7 ⟨rfl, hg7⟩
    replace s1 := s1.gr hg7
    replace hgr := hgr.trans hg7
    clear hg7
    go_wp2_with fail
    refine (same_any _ _ _ _ _ _ _ _ _ s1 s1).mono ?_
    rintro e u8 ⟨rfl, hg8⟩
    replace hgr := hgr.trans hg8
    go_wp2_with fail
    go_ret
    exact ⟨rfl, hgr⟩
  | true =>
    go_wp2_with fail
    refine (few_l a n c L w2 (h.gr hgr)).mono ?_
    rintro e w3 ⟨⟨a3, c3, n3, rfl, q3, k3, hown3, s3⟩, hg3⟩
    have hlen := k3.out
    clear hown1 hown2 hg1 h g k1 k2 s2 hg2
    generalize L.take 60 = L1 at *
    by_cases h0 : n3 = 0
    · subst h0
      replace hgr := hgr.trans hg3
      replace s1 := s1.gr hg3
      have s2 := s3
      clear hlen k3 hown3 hg3
      go_wp2_with fail
      refine (told8_any _).mono ?_
      rintro e u3 ⟨rfl, hg3⟩
      replace s1 := s1.gr hg3
      replace s2 := s2.gr hg3
      replace hgr := hgr.trans hg3
      clear hg3
      go_wp2_with fail
      refine (same_any _ _ _ _ _ _ _ _ _ s1 s2).mono ?_
      rintro e u4 ⟨rfl, hg4⟩
      replace s1 := s1.gr hg4
      replace s2 := s2.gr hg4
      replace hgr := hgr.trans hg4
      clear hg4
      go_wp2_with fail
      refine (rsame_any _ _ _ _ _ _ _ _ _ s1 s2).mono ?_
      rintro e u5 ⟨rfl, hg5⟩
      replace s1 := s1.gr hg5
      replace s2 := s2.gr hg5
      replace hgr := hgr.trans hg5
      clear hg5
      go_wp2_with fail
      refine (same_any _ _ _ _ _ _ _ _ _ s2 s1).mono ?_
      rintro e u6 ⟨rfl, hg6⟩
      replace s1 := s1.gr hg6
      replace s2 := s2.gr hg6
      replace hgr := hgr.trans hg6
      clear hg6
      rw [dec_comm]
      go_wp2_with fail
      refine (same_any _ _ _ _ _ _ _ _ _ s1 s2).mono ?_
      rintro e u7 ⟨rfl, hg7⟩
      replace s1 := s1.gr hg7
      replace hgr := hgr.trans hg7
      clear hg7
      go_wp2_with fail
      refine (same_any _ _ _ _ _ _ _ _ _ s1 s1).mono ?_
      rintro e u8 ⟨rfl, hg8⟩
      replace hgr := hgr.trans hg8
      go_wp2_with fail
      go_ret
      exact ⟨rfl, hgr⟩
    · rcases hown3.2 with ⟨e, e0⟩ | ⟨g3, cap, cur, e, hbase, r⟩
      · exact absurd e0 h0
      · cases e
        clear r
        have HN := hide hlen
        clear hlen k3
        go_wp2_with fail
        refine (within_any _ _ _ _ (by omega) (by omega) (by omega)).mono ?_
        rintro e w4 ⟨rfl, hd4⟩
        obtain ⟨b1, b2⟩ := within_bd at_ 0 ((n3 : Int) - 1) (by omega)
        obtain ⟨I, hI⟩ : ∃ I : Nat, withinF at_ 0 ((n3 : Int) - 1) = (I : Int) := ⟨_, (Int.toNat_of_nonneg b1).symm⟩
        rw [hI] at b1 b2 ⊢
        have hIn : I < n3 := by omega
        clear hI b1
        have hg4 : Gr w2 w4 := hg3.trans hd4.gr
        have hown4 := own_gr3 hown3 hd4.gr
        obtain ⟨_, _, e4, s4⟩ := SlS.of_own hown4 HN.out
        cases e4
        obtain ⟨B, o, e4, hB, hc⟩ := s4.at (by omega)
        cases e4
        have c3' := (hc I hIn).2.2
        rw [Nat.zero_add] at c3'
        have hfz := hown4.frozenAt (I * 3 + 2)
        have HO := hide hown4
        have HS := hide (flatS_setK L1 I)
        have hbase' := hbase
        clear hc hown4 hown3 s4 s3 hd4 hg3
        go_wp2_with fail
        generalize hKK : (bits _ _ _ _ : Int) = K
        obtain ⟨ho5, -⟩ := HO.out.stored (I * 3 + 2) (.int .i64 K)
        rw [HS.out K (by rw [HN.out]; exact hIn)] at ho5
        obtain ⟨_, _, e5, s2⟩ := SlS.of_own ho5 (by rw [List.length_set, HN.out])
        cases e5
        have hg5 : Gr w2 (w4.setCell ⟨g3, I * 3 + 2, none⟩ (.int .i64 K)) := hg4.set hbase' _
        replace s1 := s1.gr hg5
        replace hgr := hgr.trans hg5
        clear HO HS HN hKK c3' hfz ho5 hg5 hg4 hbase hbase' hB
        generalize (w4.setCell ⟨g3, I * 3 + 2, none⟩ (.int .i64 K)) = u0 at *
        generalize (L1.set I ((el L1 I).1, (el L1 I).2.1, K)) = M1 at *
        refine (told8_any _).mono ?_
        rintro e u3 ⟨rfl, hg3⟩
        replace s1 := s1.gr hg3
        replace s2 := s2.gr hg3
        replace hgr := hgr.trans hg3
        clear hg3
        go_wp2_with fail
        refine (same_any _ _ _ _ _ _ _ _ _ s1 s2).mono ?_
        rintro e u4 ⟨rfl, hg4⟩
        replace s1 := s1.gr hg4
        replace s2 := s2.gr hg4
        replace hgr := hgr.trans hg4
        clear hg4
        go_wp2_with fail
        refine (rsame_any _ _ _ _ _ _ _ _ _ s1 s2).mono ?_
        rintro e u5 ⟨rfl, hg5⟩
        replace s1 := s1.gr hg5
        replace s2 := s2.gr hg5
        replace hgr := hgr.trans hg5
        clear hg5
        go_wp2_with fail
        refine (same_any _ _ _ _ _ _ _ _ _ s2 s1).mono ?_
        rintro e u6 ⟨rfl, hg6⟩
        replace s1 := s1.gr hg6
        replace s2 := s2.gr hg6
        replace hgr := hgr.trans hg6
        clear hg6
        rw [dec_comm]
        go_wp2_with fail
        refine (same_any _ _ _ _ _ _ _ _ _ s1 s2).mono ?_
        rintro e u7 ⟨rfl, hg7⟩
        replace s1 := s1.gr hg7
        replace hgr := hgr.trans hg7
        clear hg7
        go_wp2_with fail
        refine (same_any _ _ _ _ _ _ _ _ _ s1 s1).mono ?_
        rintro e u8 ⟨rfl, hg8⟩
        replace hgr := hgr.trans hg8
        go_wp2_with fail
        go_ret
        exact ⟨rfl, hgr⟩

end Go.Proofs.Ytobankjdgdjehaa
