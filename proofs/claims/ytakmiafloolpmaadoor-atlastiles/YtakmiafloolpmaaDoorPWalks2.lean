/- What pack.putRuns and the document's runs answer: the same bytes. -/
import Derived.Test.YtakmiafloolpmaaDoorPWalks
namespace Go.Proofs.YtakmiafloolpmaaDoor
open Go.RowKit
set_option maxRecDepth 20000

theorem two_news (w : World) (x y : Value) (t : TypeId) : ∀ j u, [x, y][j]? = some u → (w.alloc (.cells #[x, y] t)).cell? ((⟨w.heap.size, 0, none⟩ : Addr).add j) = some u := by
  intro j u hj
  match j, hj with
  | 0, hj => simp only [List.getElem?_cons_zero, Option.some.injEq] at hj; subst hj; simp [go_sem, Addr.add]
  | 1, hj => simp only [List.getElem?_cons_succ, List.getElem?_cons_zero, Option.some.injEq] at hj; subst hj; simp [go_sem, Addr.add]
  | j + 2, hj => simp at hj
/-- a row of a list of bytes that a call made -/
def RowL (w : World) (base : Nat) (v : Value) (L : List Int) : Prop := w.ownsRow base 5 1 v L.length (L.map (Value.int .u8))
theorem RowL.form {w : World} {base : Nat} {v : Value} {L : List Int} (h : RowL w base v L) (h0 : 0 < L.length) : ∃ g c, v = .slice (some ⟨g, 0, none⟩) L.length c ∧ base ≤ g ∧ g < w.heap.size ∧ L.length ≤ c ∧ c ≤ maxLen := by
  rcases h.2 with ⟨_, hn⟩ | ⟨g, cap, cur, rfl, hb, hg, hn, hm, hs, ht⟩
  · omega
  · exact ⟨g, cap, rfl, hb, (Array.getElem?_eq_some_iff.1 hg).1, hn, hm⟩
theorem RowL.ownB {w : World} {base g c : Nat} {L : List Int} (h : RowL w base (.slice (some ⟨g, 0, none⟩) L.length c) L) (hb : ∀ x ∈ L, 0 ≤ x ∧ x ≤ 255) : OwnB w base g L.length c (fun i => L.getD i 0) := by
  refine ⟨?_, getD_byte hb⟩
  rw [cel_list]
  exact h
theorem RowL.gr {w w' : World} {base : Nat} {v : Value} {L : List Int} (h : RowL w base v L) (g : Gr w w') : RowL w' base v L := own_gr h g
theorem RowL.one (w : World) (x : Int) : RowL (w.alloc (.cells #[.int .u8 x] 5)) w.heap.size (.slice (some ⟨w.heap.size, 0, none⟩) 1 1) [x] := by
  exact World.ownsRow_lit (base := w.heap.size) (e := 5) (size := 1) w #[.int .u8 x] 1 (Nat.le_refl _) (by unfold maxLen; omega) rfl
theorem rowL_next {w w1 : World} {base : Nat} {v v' : Value} {L : List Int} {x y : Int} (hl : 0 < L.length) (h : w1.ownsRow base 5 1 v' (L.length + 2) (L.map (Value.int .u8) ++ [.int .u8 x, .int .u8 y])) (hv : RowL w base v L) {u : World} (hu : Gr w u) (hg : u.grownBy w1 v.ownBlock) {w0 : World} (h0 : Gr w0 w) (hb : w0.heap.size = base) :
    ∃ g c, v' = .slice (some ⟨g, 0, none⟩) (L.length + 2) c ∧ RowL w1 base (.slice (some ⟨g, 0, none⟩) (L.length + 2) c) (L ++ [x, y]) ∧ Gr w0 w1 := by
  have h1 : RowL w1 base v' (L ++ [x, y]) := by
    unfold RowL
    rw [List.map_append, List.length_append]
    exact h
  obtain ⟨g, c, rfl, -, -, -, -⟩ := h1.form (by simp)
  rw [List.length_append] at h1
  refine ⟨g, c, by rw [List.length_append]; rfl, h1, Gr.grown (h0.trans hu) hg ?_⟩
  intro k hk
  obtain ⟨g', c', rfl, q, -, -, -⟩ := hv.form hl
  simp [Value.ownBlock] at hk
  omega

set_option maxHeartbeats 2000000 in
theorem putRuns_any (a : Option Addr) (n cap : Nat) (f : Nat → Int) (w : World) (h : Sl w a n f) (h0 : 0 < n) (hn : n ≤ cap) (h256 : n ≤ 256) :
    Calls Tryd.prog 51 #[.slice a n cap] w fun e w' => (∃ g c, e = .returned (.slice (some ⟨g, 0, none⟩) (2 :: runsL n f 0).length c) ∧ OwnB w' w.heap.size g (2 :: runsL n f 0).length c (fun i => (2 :: runsL n f 0).getD i 0)) ∧ Gr w w' := by
  obtain ⟨i0, hi, hz0, hz1, hz2⟩ := info_parts info_u8
  obtain ⟨b, o, rfl, hB, hc⟩ := h.at h0
  have HC := hide hc
  clear hc
  have HB : Hid (∀ x ∈ (2 :: runsL n f 0), (0 : Int) ≤ x ∧ x ≤ 255) := hide (by
    intro x hx
    rcases List.mem_cons.1 hx with rfl | hx
    · omega
    · exact runsL_byte h.byte h256 0 x hx)
  have HL : Hid ((2 :: runsL n f 0).length ≤ 513) := hide (by rw [List.length_cons, runsL_len]; have := cntF_le n f 0; omega)
  go_enter Tryd.func51, Tryd.ntmps51
  go_wp2_with fail
  go_loopw [0, 3] (fun s t u => ∃ (i : Nat) (a' : Option Addr) (L : List Int) (g c : Nat), i ≤ n ∧ s = .slice a' (n - i) (cap - i) ∧ (i < n → a' = some ⟨b, o + i, none⟩) ∧ t = .slice (some ⟨g, 0, none⟩) L.length c ∧ 0 < L.length ∧ RowL u w.heap.size (.slice (some ⟨g, 0, none⟩) L.length c) L ∧ L ++ runsL n f i = 2 :: runsL n f 0 ∧ Gr w u) (fun s _ _ => match s with | .slice _ m _ => m | _ => 0)
  case atStart => exact ⟨0, _, [2], _, _, Nat.zero_le _, rfl, fun _ => rfl, rfl, Nat.one_pos, RowL.one w 2, rfl, (by repeat (first | exact Gr.refl _ | assumption | exact Dr.gr (by assumption) | refine Gr.alloc ?_ _ | refine Gr.drewN ?_ _ | refine Gr.drew ?_ | refine Gr.trans ?_ (by assumption) | refine Gr.trans ?_ (Dr.gr (by assumption))))⟩
  case round =>
    obtain ⟨i, a', L, g, c, hi', rfl, ha', rfl, hL, hrow, hruns, hgr⟩ := hrel
    have hcast : ((n - i : Nat) : Int) = (n : Int) - i := by omega
    by_cases hlt : i < n
    · have ha := ha' hlt
      subst ha
      clear ha'
      have hp := runF_pos (f := f) hlt
      have hq := runF_le n f i
      have hs := runF_shift n f i
      have hlen : L.length ≤ 513 := by have := congrArg List.length hruns; rw [List.length_append] at this; have := HL.out; omega
      rw [runsL_step hlt] at hruns
      have HRU := hide hruns
      have HRO := hide hrow
      clear hruns hrow
      generalize runF n f i = r at *
      have hcr := HC.out i hlt
      go_wp2_with (first | (go_at_call 61; refine (runLength_any _ _ _ (fun j => f (i + j)) _ ((h.drop i).gr hgr) (by omega) (by unfold maxLen; omega)).mono ?_; rintro e w1 ⟨rfl, hg1⟩; rw [hs]; replace hcr := cell_gr hcr (hgr.trans hg1)) | (at_builtin; go_loud (refine wpList_append_own _ rfl _ _ 22 rfl w.heap.size 5 i0 (.int .u8 0) 1 1 Tryd.underlying22 hi hz0 hz1 hz2 rfl (by decide) (.slice (some ⟨g, 0, none⟩) L.length c) L.length (L.map (Value.int .u8)) rfl (HRO.out.gr (by repeat (first | exact Gr.refl _ | assumption | exact Dr.gr (by assumption) | refine Gr.alloc ?_ _ | refine Gr.drewN ?_ _ | refine Gr.drew ?_ | refine Gr.trans ?_ (by assumption) | refine Gr.trans ?_ (Dr.gr (by assumption))))) ⟨w1.heap.size, 0, none⟩ 2 2 [.int .u8 ((r : Int) - 1), .int .u8 (f i)] rfl rfl (two_news _ _ _ _) (map_one .u8 [_, _]) (by unfold maxLen; omega) (by omega) (by have := (hgr.trans hg1).size; simp only [World.size_alloc]; omega) ?_; intro v' w2 hown hgrow hnil); obtain ⟨g2, c2, rfl, hrow2, hgr2⟩ := rowL_next hL hown (HRO.out.gr hg1) ((Gr.refl _).alloc _) hgrow (hgr.trans hg1) rfl))
      go_roundw
      case rel =>
        refine ⟨i + r, _, L ++ [(r : Int) - 1, f i], g2, c2, by omega, by rw [Nat.sub_sub, Nat.sub_sub], fun hl => by rw [if_neg (by omega), Nat.add_assoc], ?_, by simp, ?_, ?_, hgr2⟩
        · rw [List.length_append]; rfl
        · rw [List.length_append]; exact hrow2
        · rw [List.append_assoc]; exact HRU.out
      case measure => simp; omega
    · rw [runsL_end hlt, List.append_nil] at hruns
      have HRU := hide hruns
      have HRO := hide hrow
      clear hruns hrow
      go_wp2
      go_ret
      have e := HRU.out
      subst e
      exact ⟨⟨g, c, rfl, HRO.out.ownB HB.out⟩, hgr⟩

set_option maxHeartbeats 2000000 in
theorem rruns_any (a : Option Addr) (n cap : Nat) (f : Nat → Int) (w : World) (h : Sl w a n f) (h0 : 0 < n) (h256 : n ≤ 256) :
    Calls Tryd.prog 55 #[.slice a n cap] w fun e w' => (∃ g c, e = .returned (.slice (some ⟨g, 0, none⟩) (2 :: runsL n f 0).length c) ∧ OwnB w' w.heap.size g (2 :: runsL n f 0).length c (fun i => (2 :: runsL n f 0).getD i 0)) ∧ Gr w w' := by
  obtain ⟨i0, hi, hz0, hz1, hz2⟩ := info_parts info_u8
  obtain ⟨b, o, rfl, hB, hc⟩ := h.at h0
  have HC := hide hc
  clear hc
  have HB : Hid (∀ x ∈ (2 :: runsL n f 0), (0 : Int) ≤ x ∧ x ≤ 255) := hide (by
    intro x hx
    rcases List.mem_cons.1 hx with rfl | hx
    · omega
    · exact runsL_byte h.byte h256 0 x hx)
  have HL : Hid ((2 :: runsL n f 0).length ≤ 513) := hide (by rw [List.length_cons, runsL_len]; have := cntF_le n f 0; omega)
  go_enter Tryd.func55, Tryd.ntmps55
  go_wp2_with fail
  go_loopw [3, 4] (fun t s u => ∃ (i : Nat) (L : List Int) (g c : Nat), i ≤ n ∧ s = .int .i64 i ∧ t = .slice (some ⟨g, 0, none⟩) L.length c ∧ 0 < L.length ∧ RowL u w.heap.size (.slice (some ⟨g, 0, none⟩) L.length c) L ∧ L ++ runsL n f i = 2 :: runsL n f 0 ∧ Gr w u) (fun _ s _ => n - (intOf s).toNat)
  case atStart => exact ⟨0, [2], _, _, Nat.zero_le _, rfl, rfl, Nat.one_pos, RowL.one w 2, rfl, (by repeat (first | exact Gr.refl _ | assumption | exact Dr.gr (by assumption) | refine Gr.alloc ?_ _ | refine Gr.drewN ?_ _ | refine Gr.drew ?_ | refine Gr.trans ?_ (by assumption) | refine Gr.trans ?_ (Dr.gr (by assumption))))⟩
  case round =>
    obtain ⟨i, L, g, c, hi', rfl, rfl, hL, hrow, hruns, hgr⟩ := hrel
    by_cases hlt : i < n
    · have hp := runF_pos (f := f) hlt
      have hq := runF_le n f i
      have hlen : L.length ≤ 513 := by have := congrArg List.length hruns; rw [List.length_append] at this; have := HL.out; omega
      rw [runsL_step hlt] at hruns
      have HRU := hide hruns
      have HRO := hide hrow
      clear hruns hrow
      have hci := cell_gr (HC.out i hlt) hgr
      go_wp2_with fail
      go_loopw [5] (fun s u => ∃ k : Nat, 1 ≤ k ∧ i + k ≤ n ∧ s = .int .i64 k ∧ (∀ j, j < k → f (i + j) = f i) ∧ Gr wr u) (fun s _ => n - i - (intOf s).toNat)
      case atStart => exact ⟨1, Nat.le_refl _, hlt, rfl, fun j hj => by rw [show j = 0 by omega]; rfl, Gr.refl _⟩
      case round =>
        obtain ⟨k, hk1, hk, rfl, hall, hgr2⟩ := hrel
        have HA := hide hall
        clear hall
        replace hci := cell_gr hci hgr2
        by_cases hlk : i + k < n
        · have hck := cell_gr (HC.out (i + k) hlk) (hgr.trans hgr2)
          have hwr : IntKind.i64.wrap ((i : Int) + (k : Int)) = (i : Int) + (k : Int) := wrapI (by omega)
          have hd : (i : Int) + (k : Int) < (n : Int) := by omega
          have hd0 : 0 ≤ (i : Int) + (k : Int) := by omega
          have hi1 : (i : Int) < (n : Int) := by omega
          have hi0 : 0 ≤ (i : Int) := by omega
          have hix : ((i : Int) + (k : Int)).toNat = i + k := by omega
          by_cases hx : f (i + k) = f i
          · have HX := hide hx
            have hx' : (f (i + k) == f i) = true := by simp [hx]
            clear hx
            go_wp2
            go_quiet (fail)
            go_wp2
            go_roundw
            case rel =>
              refine ⟨k + 1, by omega, by omega, by go_num, fun j hj => ?_, (by repeat (first | exact Gr.refl _ | assumption | exact Dr.gr (by assumption) | refine Gr.alloc ?_ _ | refine Gr.drewN ?_ _ | refine Gr.drew ?_ | refine Gr.trans ?_ (by assumption) | refine Gr.trans ?_ (Dr.gr (by assumption))))⟩
              by_cases e : j = k
              · rw [e]; exact HX.out
              · exact HA.out j (by omega)
            case measure => simp [intOf]; omega
          · have E : Hid (runF n f i = k) := hide (runF_eq (by omega) HA.out (fun _ => hx))
            have hx' : (f (i + k) == f i) = false := by simp [hx]
            clear hx
            go_wp2
            go_quiet (fail)
            replace hci := cell_gr hci ((Gr.refl _).drewN nq)
            have hgr3 := (hgr.trans hgr2).drewN nq
            have hgr4 := hgr2.drewN nq
            replace HRO := hide (HRO.out.gr hgr4)
            clear hgr4 hgr2 hgr
            generalize wr.drewN nq = w1 at *
            go_wp2_with (at_builtin; refine wpList_append_own _ rfl _ _ 22 rfl w.heap.size 5 i0 (.int .u8 0) 1 1 Tryd.underlying22 hi hz0 hz1 hz2 rfl (by decide) (.slice (some ⟨g, 0, none⟩) L.length c) L.length (L.map (Value.int .u8)) rfl (HRO.out.gr (by repeat (first | exact Gr.refl _ | assumption | exact Dr.gr (by assumption) | refine Gr.alloc ?_ _ | refine Gr.drewN ?_ _ | refine Gr.drew ?_ | refine Gr.trans ?_ (by assumption) | refine Gr.trans ?_ (Dr.gr (by assumption))))) ⟨w1.heap.size, 0, none⟩ 2 2 [.int .u8 ((k : Int) - 1), .int .u8 (f i)] rfl rfl (two_news _ _ _ _) (map_one .u8 [_, _]) (by unfold maxLen; omega) (by omega) (by have := hgr3.size; simp only [World.size_alloc]; omega) ?_; intro v' w2 hown hgrow hnil; obtain ⟨g2, c2, rfl, hrow2, hgr5⟩ := rowL_next hL hown HRO.out ((Gr.refl _).alloc _) hgrow hgr3 rfl)
            go_roundw
            case rel =>
              have e := HRU.out
              rw [E.out] at e
              refine ⟨i + k, L ++ [(k : Int) - 1, f i], g2, c2, by omega, by go_num, ?_, by simp, ?_, ?_, hgr5⟩
              · rw [List.length_append]; rfl
              · rw [List.length_append]; exact hrow2
              · rw [List.append_assoc]; exact e
            case measure => simp [intOf]; omega
        · have E : Hid (runF n f i = k) := hide (runF_eq (by omega) HA.out (by omega))
          have hd : decide ((i : Int) + (k : Int) < (n : Int)) = false := by simp; omega
          go_wp2
          go_quiet (fail)
          replace hci := cell_gr hci ((Gr.refl _).drewN nq)
          have hgr3 := (hgr.trans hgr2).drewN nq
          have hgr4 := hgr2.drewN nq
          replace HRO := hide (HRO.out.gr hgr4)
          clear hgr4 hgr2 hgr
          generalize wr.drewN nq = w1 at *
          go_wp2_with (at_builtin; refine wpList_append_own _ rfl _ _ 22 rfl w.heap.size 5 i0 (.int .u8 0) 1 1 Tryd.underlying22 hi hz0 hz1 hz2 rfl (by decide) (.slice (some ⟨g, 0, none⟩) L.length c) L.length (L.map (Value.int .u8)) rfl (HRO.out.gr (by repeat (first | exact Gr.refl _ | assumption | exact Dr.gr (by assumption) | refine Gr.alloc ?_ _ | refine Gr.drewN ?_ _ | refine Gr.drew ?_ | refine Gr.trans ?_ (by assumption) | refine Gr.trans ?_ (Dr.gr (by assumption))))) ⟨w1.heap.size, 0, none⟩ 2 2 [.int .u8 ((k : Int) - 1), .int .u8 (f i)] rfl rfl (two_news _ _ _ _) (map_one .u8 [_, _]) (by unfold maxLen; omega) (by omega) (by have := hgr3.size; simp only [World.size_alloc]; omega) ?_; intro v' w2 hown hgrow hnil; obtain ⟨g2, c2, rfl, hrow2, hgr5⟩ := rowL_next hL hown HRO.out ((Gr.refl _).alloc _) hgrow hgr3 rfl)
          go_roundw
          case rel =>
            have e := HRU.out
            rw [E.out] at e
            refine ⟨i + k, L ++ [(k : Int) - 1, f i], g2, c2, by omega, by go_num, ?_, by simp, ?_, ?_, hgr5⟩
            · rw [List.length_append]; rfl
            · rw [List.length_append]; exact hrow2
            · rw [List.append_assoc]; exact e
          case measure => simp [intOf]; omega
    · rw [runsL_end hlt, List.append_nil] at hruns
      have HRU := hide hruns
      have HRO := hide hrow
      clear hruns hrow
      go_wp2
      go_ret
      have e := HRU.out
      subst e
      exact ⟨⟨g, c, rfl, HRO.out.ownB HB.out⟩, hgr⟩

end Go.Proofs.YtakmiafloolpmaaDoor
