/- What pack's readRuns answers. -/
import Derived.Test.YtakmiafloolpmaaDoorDWalks
namespace Go.Proofs.YtakmiafloolpmaaDoor
open Go.RowKit
set_option maxRecDepth 20000

theorem at0_last {L : List Int} (h : 0 < L.length) : L.getLast? = some (at0 L (L.length - 1)) := by
  rw [List.getLast?_eq_getElem?]
  unfold at0
  rw [List.getD_eq_getElem?_getD, List.getElem?_eq_getElem (by omega)]
  rfl
theorem rowL_app {w w1 u w0 : World} {base k : Nat} {v v' : Value} {L : List Int} {x : Int} (h : w1.ownsRow base 5 1 v' (L.length + k) (L.map (Value.int .u8) ++ List.replicate k (.int .u8 x))) (hk : 0 < k) (hs : ∀ j, v.ownBlock = some j → base ≤ j) (hu : Gr w u) (hg : u.grownBy w1 v.ownBlock) (h0 : Gr w0 w) (hb : w0.heap.size = base) :
    ∃ g c, v' = .slice (some ⟨g, 0, none⟩) (L ++ List.replicate k x).length c ∧ RowL w1 base (.slice (some ⟨g, 0, none⟩) (L ++ List.replicate k x).length c) (L ++ List.replicate k x) ∧ Gr w0 w1 ∧ base ≤ g := by
  have h1 : RowL w1 base v' (L ++ List.replicate k x) := by
    unfold RowL
    rw [List.map_append, List.length_append, List.length_replicate, List.map_replicate]
    exact h
  obtain ⟨g, c, rfl, hbg, -, -, -⟩ := h1.form (by simp; omega)
  refine ⟨g, c, rfl, h1, Gr.grown (h0.trans hu) hg ?_, hbg⟩
  intro j hj
  have := hs j hj
  omega
theorem RowL.cellAt {w : World} {base g c : Nat} {L : List Int} (h : RowL w base (.slice (some ⟨g, 0, none⟩) L.length c) L) {i : Nat} (hi : i < L.length) : w.cell? ⟨g, i, none⟩ = some (.int .u8 (at0 L i)) := by
  have := World.ownsRow.cellAt h i (by omega)
  rw [this, List.getElem?_map, List.getElem?_eq_getElem hi]
  unfold at0
  rw [List.getD_eq_getElem?_getD, List.getElem?_eq_getElem hi]
  rfl
theorem rep_cells {w : World} {g k : Nat} {x : Int} (h : Sl w (some ⟨g, 0, none⟩) k (fun _ => x)) : ∀ j u, (List.replicate k (Value.int .u8 x))[j]? = some u → w.cell? ((⟨g, 0, none⟩ : Addr).add j) = some u := by
  intro j u hj
  have hjk : j < k := by
    have := (List.getElem?_eq_some_iff.1 hj).1
    rwa [List.length_replicate] at this
  obtain ⟨b, o, e, _, hc⟩ := h.at (by omega)
  cases e
  have e : (⟨g, 0, none⟩ : Addr).add j = ⟨g, 0 + j, none⟩ := by unfold Addr.add; split <;> simp_all
  rw [List.getElem?_replicate, if_pos hjk] at hj
  rw [e, hc j hjk]
  exact hj

theorem repeat1_int (b o cap : Nat) (x : Int) (c : Nat) (C : Int) (w : World) (hcell : w.cell? ⟨b, o, none⟩ = some (.int .u8 x)) (hx : 0 ≤ x ∧ x ≤ 255) (c1 : 1 ≤ c) (c2 : c ≤ 256) (hC : C = c) :
    Calls Tryd.prog 84 #[.slice (some ⟨b, o, none⟩) 1 cap, .int .i64 C] w fun e w' => (∃ g, e = .returned (.slice (some ⟨g, 0, none⟩) c c) ∧ w.heap.size ≤ g ∧ Sl w' (some ⟨g, 0, none⟩) c (fun _ => x)) ∧ Gr w w' := by
  subst hC
  exact repeat1_any b o cap x c w hcell hx c1 c2

set_option maxHeartbeats 4000000 in
theorem readRuns_any (a : Option Addr) (B cap n : Nat) (b : Nat → Int) (ga : Nat → Addr) (w : World) (h : Sl w a B b) (hw : Glob w ga) (hc : B ≤ cap) (hB7 : B ≤ 1000000) (n1 : 1 ≤ n) (n2 : n ≤ 256) (hB : 0 < B) :
    Calls Tryd.prog 82 #[.slice a B cap, .int .i64 n] w fun e w' => (∃ v, e = .returned v ∧ Reads w' (decR n B b 1 []) v) ∧ Gr w w' := by
  obtain ⟨i0, hi, hz0, hz1, hz2⟩ := info_parts info_u8
  obtain ⟨bb, oo, rfl, hbb, hcell⟩ := h.at hB
  have HC := hide hcell
  have HW := hide hw
  clear hcell hw
  have hbyte := hide h.byte
  go_enter Tryd.func82, Tryd.ntmps82
  go_wp2_with (at_make; refine wpList_make_own _ rfl _ _ 22 rfl w.heap.size 5 i0 (.int .u8 0) 1 Tryd.underlying22 hi hz0 hz1 .i64 .i64 _ n rfl rfl rfl (by rw [hz2]; omega) (by unfold maxLen; omega) (Nat.le_refl _) ?_; intro w1 hown hgrow)
  have hg1 : Gr w w1 := Gr.grown (Gr.refl w) hgrow (by intro k hk; cases hk)
  have hr1 : RowL w1 w.heap.size (.slice (some ⟨w.heap.size, 0, none⟩) 0 n) [] := hown
  have HR1 := hide hr1
  have HG1 := hide hg1
  clear hown hgrow hr1 hg1
  go_loopw [7, 8] (fun s t u => ∃ (p : Nat) (acc : List Int) (g c : Nat), 1 ≤ p ∧ p ≤ max B 1 ∧ t = .int .i64 p ∧ s = .slice (some ⟨g, 0, none⟩) acc.length c ∧ w.heap.size ≤ g ∧ RowL u w.heap.size (.slice (some ⟨g, 0, none⟩) acc.length c) acc ∧ acc.length ≤ n ∧ (∀ x ∈ acc, 0 ≤ x ∧ x ≤ 255) ∧ decR n B b 1 [] = decR n B b p acc ∧ Gr w u) (fun s _ _ => match s with | .slice _ m _ => n - m | _ => 0)
  case atStart => exact ⟨1, [], w.heap.size, n, Nat.le_refl _, by omega, rfl, rfl, Nat.le_refl _, HR1.out, Nat.zero_le _, by simp, rfl, HG1.out⟩
  case round =>
    obtain ⟨p, acc, g, c, hp, hpB, rfl, rfl, hge, hrow, hacc, habyte, hdec, hgr⟩ := hrel
    have hwr := HW.out.gr hgr
    have e0 := hwr.val 0 (by omega)
    have e2 := hwr.val 2 (by omega)
    have e3 := hwr.val 3 (by omega)
    have e4 := hwr.val 4 (by omega)
    have s0 : sentG 0 = 3 := rfl
    have s2 : sentG 2 = 5 := rfl
    have s3 : sentG 3 = 6 := rfl
    have s4 : sentG 4 = 7 := rfl
    rw [s0] at e0
    rw [s2] at e2
    rw [s3] at e3
    rw [s4] at e4
    clear s0 s2 s3 s4
    have HWR := hide hwr
    clear hwr
    by_cases hend : n ≤ acc.length
    · have HD := hide (hdec.trans (decR_end hend))
      have hob := (hrow.ownB habyte).sl
      clear hdec hrow
      go_wp2
      go_ret3
      rw [HD.out]
      exact ⟨⟨_, rfl, .inl ⟨rfl, g, c, rfl, hob.1, hob.2.1, hob.2.2.2.2⟩⟩, hgr⟩
    have hlt : (acc.length : Int) < n := by omega
    by_cases hs : B < p + 2
    · have HD := hide (hdec.trans (decR_short hend hs))
      clear hdec hrow
      go_wp2_with (go_at_call 79; refine (faultAt_any 0 _ ga _ HWR.out (by omega)).mono ?_; rintro e w2 ⟨⟨k, rfl, hk, -⟩, hg⟩)
      go_ret3
      rw [HD.out]
      exact ⟨⟨_, rfl, reads_no (by simp) hk⟩, (by repeat (first | exact Gr.refl _ | assumption | exact Dr.gr (by assumption) | refine Gr.alloc ?_ _ | refine Gr.drewN ?_ _ | refine Gr.drew ?_ | refine Gr.trans ?_ (by assumption) | refine Gr.trans ?_ (Dr.gr (by assumption))))⟩
    have c0 := cell_gr (HC.out p (by omega)) hgr
    have c1 := cell_gr (HC.out (p + 1) (by omega)) hgr
    have q0 := hbyte.out p (by omega)
    have q1 := hbyte.out (p + 1) (by omega)
    have p0 : 0 ≤ (p : Int) := by omega
    have p1 : (p : Int) < B := by omega
    have p2 : 0 ≤ (p : Int) + 1 := by omega
    have p3 : (p : Int) + 1 < B := by omega
    have p4 : ((p : Int) + 1).toNat = p + 1 := by omega
    have pw : IntKind.i64.wrap ((p : Int) + 1) = (p : Int) + 1 := wrapI (by omega)
    obtain ⟨k0, hk0⟩ : ∃ k0 : Nat, k0 = (b p).toNat := ⟨_, rfl⟩
    have hk1 : b p = (k0 : Int) := by omega
    rw [hk1] at c0
    obtain ⟨x, hx⟩ : ∃ x, x = b (p + 1) := ⟨_, rfl⟩
    rw [← hx] at c1 q1
    have kw : IntKind.i64.wrap (k0 : Int) = (k0 : Int) := wrapI (by omega)
    have kw1 : IntKind.i64.wrap ((k0 : Int) + 1) = (k0 : Int) + 1 := wrapI (by omega)
    have k255 : k0 ≤ 255 := by omega
    have HK0 := hide hk0
    have HX := hide hx
    have HDEC := hide hdec
    have HROW := hide hrow
    clear hk0 hk1 hx hdec hrow
    go_wp2_with fail
    go_quiet (fail)
    have hgr2 := hgr.drewN nq
    replace e2 := cell_gr e2 ((Gr.refl _).drewN nq)
    replace e3 := cell_gr e3 ((Gr.refl _).drewN nq)
    replace e4 := cell_gr e4 ((Gr.refl _).drewN nq)
    replace c1 := cell_gr c1 ((Gr.refl _).drewN nq)
    replace HROW := hide (HROW.out.gr ((Gr.refl _).drewN nq))
    clear e0 c0 hgr HWR
    generalize wr.drewN nq = w1 at *
    by_cases hx0 : x = 0
    · have HD := hide (HDEC.out.trans (decR_bad hend hs (.inl (by rw [← HX.out]; exact hx0))))
      have hx0' : (x == 0) = true := by simp [hx0]
      clear HDEC hx0
      go_wp2_with (go_at_call 79; refine (faultAt_any 2 _ ga _ (HW.out.gr (by repeat (first | exact Gr.refl _ | assumption | exact Dr.gr (by assumption) | refine Gr.alloc ?_ _ | refine Gr.drewN ?_ _ | refine Gr.drew ?_ | refine Gr.trans ?_ (by assumption) | refine Gr.trans ?_ (Dr.gr (by assumption))))) (by omega)).mono ?_; rintro e w2 ⟨⟨k, rfl, hk, -⟩, hg⟩)
      go_ret3
      rw [HD.out]
      exact ⟨⟨_, rfl, reads_no (by simp) hk⟩, (by repeat (first | exact Gr.refl _ | assumption | exact Dr.gr (by assumption) | refine Gr.alloc ?_ _ | refine Gr.drewN ?_ _ | refine Gr.drew ?_ | refine Gr.trans ?_ (by assumption) | refine Gr.trans ?_ (Dr.gr (by assumption))))⟩
    have hx0' : (x == 0) = false := by simp [hx0]
    have HX0 := hide hx0
    clear hx0
    by_cases hbey : n < acc.length + (k0 + 1)
    · have HD := hide (HDEC.out.trans (decR_bad hend hs (.inr (.inl (by rw [← HK0.out]; exact hbey)))))
      have hb1 : (n : Int) - acc.length < (k0 : Int) + 1 := by omega
      clear HDEC
      go_wp2_with (go_at_call 79; refine (faultAt_any 3 _ ga _ (HW.out.gr (by repeat (first | exact Gr.refl _ | assumption | exact Dr.gr (by assumption) | refine Gr.alloc ?_ _ | refine Gr.drewN ?_ _ | refine Gr.drew ?_ | refine Gr.trans ?_ (by assumption) | refine Gr.trans ?_ (Dr.gr (by assumption))))) (by omega)).mono ?_; rintro e w2 ⟨⟨k, rfl, hk, -⟩, hg⟩)
      go_ret3
      rw [HD.out]
      exact ⟨⟨_, rfl, reads_no (by simp) hk⟩, (by repeat (first | exact Gr.refl _ | assumption | exact Dr.gr (by assumption) | refine Gr.alloc ?_ _ | refine Gr.drewN ?_ _ | refine Gr.drew ?_ | refine Gr.trans ?_ (by assumption) | refine Gr.trans ?_ (Dr.gr (by assumption))))⟩
    have hb1 : ¬ (n : Int) - acc.length < (k0 : Int) + 1 := by omega
    by_cases hacc0 : 0 < acc.length
    · have ha0 : (0 : Int) < acc.length := by omega
      have cl := HROW.out.cellAt (i := acc.length - 1) (by omega)
      have hlast := at0_last hacc0
      obtain ⟨y, hy⟩ : ∃ y, y = at0 acc (acc.length - 1) := ⟨_, rfl⟩
      rw [← hy] at cl hlast
      clear hy
      have al1 : ((acc.length : Int) - 1).toNat = acc.length - 1 := by omega
      have al2 : 0 ≤ (acc.length : Int) - 1 := by omega
      have al3 : (acc.length : Int) - 1 < acc.length := by omega
      by_cases hxy : x = y
      · have HD := hide (HDEC.out.trans (decR_bad hend hs (.inr (.inr (by rw [hlast, ← HX.out, hxy])))))
        have hxy' : (x == y) = true := by simp [hxy]
        clear HDEC hxy hlast
        go_wp2_with (go_at_call 79; refine (faultAt_any 4 _ ga _ (HW.out.gr (by repeat (first | exact Gr.refl _ | assumption | exact Dr.gr (by assumption) | refine Gr.alloc ?_ _ | refine Gr.drewN ?_ _ | refine Gr.drew ?_ | refine Gr.trans ?_ (by assumption) | refine Gr.trans ?_ (Dr.gr (by assumption))))) (by omega)).mono ?_; rintro e w2 ⟨⟨k, rfl, hk, -⟩, hg⟩)
        go_ret3
        rw [HD.out]
        exact ⟨⟨_, rfl, reads_no (by simp) hk⟩, (by repeat (first | exact Gr.refl _ | assumption | exact Dr.gr (by assumption) | refine Gr.alloc ?_ _ | refine Gr.drewN ?_ _ | refine Gr.drew ?_ | refine Gr.trans ?_ (by assumption) | refine Gr.trans ?_ (Dr.gr (by assumption))))⟩
      · have HD := hide (HDEC.out.trans (decR_step hend hs (by
          rw [← HX.out, ← HK0.out, hlast]
          rintro (q | q | q)
          · exact HX0.out q
          · exact hbey q
          · exact hxy (Option.some.inj q).symm)))
        have hxy' : (x == y) = false := by simp [hxy]
        clear HDEC hxy hlast
        have hne1 : ¬ cap = p + 1 := by omega
        have pw2 : ((p : Int) + 2).toNat = p + 2 := by omega
        have hkn : 1 ≤ k0 + 1 := by omega
        go_wp2_with fail
        refine (repeat1_int _ _ _ x (k0 + 1) _ _ c1 q1 hkn (by omega) (by omega)).mono ?_
        rintro e w2 ⟨⟨g2, rfl, hg20, hs2⟩, hg2⟩
        have hgr3 := hgr2.trans hg2
        replace HROW := hide (HROW.out.gr hg2)
        clear c1 e2 e3 e4
        go_wp2_with (at_builtin; refine wpList_append_own _ rfl _ _ 22 rfl w.heap.size 5 i0 (.int .u8 0) 1 1 Tryd.underlying22 hi hz0 hz1 hz2 rfl (by decide) (.slice (some ⟨g, 0, none⟩) acc.length c) acc.length (acc.map (Value.int .u8)) rfl HROW.out ⟨g2, 0, none⟩ (k0 + 1) (k0 + 1) (List.replicate (k0 + 1) (.int .u8 x)) rfl (by simp) (rep_cells hs2) (fun u hu => by rw [(List.mem_replicate.1 hu).2]; rfl) (by unfold maxLen; omega) (by omega) hgr3.size ?_; intro v' w3 hown hgrow hnil; obtain ⟨g3, c3, rfl, hrow3, hgr4, hbg3⟩ := rowL_app hown (by omega) (by intro j hj; simp [Value.ownBlock] at hj; omega) (Gr.refl w2) hgrow hgr3 rfl)
        go_roundw
        case rel =>
          have hd := HD.out
          rw [← HX.out, ← HK0.out] at hd
          refine ⟨p + 2, acc ++ List.replicate (k0 + 1) x, g3, c3, by omega, by omega, by go_num, by simp, hbg3, hrow3, by simp; omega, ?_, hd, hgr4⟩
          intro z hz
          rcases List.mem_append.1 hz with hz | hz
          · exact habyte z hz
          · rw [(List.mem_replicate.1 hz).2]; exact q1
        case measure => simp; omega
    · have hacc1 : acc = [] := List.eq_nil_of_length_eq_zero (by omega)
      have HD := hide (HDEC.out.trans (decR_step hend hs (by
        rw [← HX.out, ← HK0.out]
        rintro (q | q | q)
        · exact HX0.out q
        · exact hbey q
        · rw [hacc1] at q; simp at q)))
      have ha0 : ¬ (0 : Int) < acc.length := by omega
      clear HDEC hacc1
      have hne1 : ¬ cap = p + 1 := by omega
      have pw2 : ((p : Int) + 2).toNat = p + 2 := by omega
      have hkn : 1 ≤ k0 + 1 := by omega
      go_wp2_with fail
      refine (repeat1_int _ _ _ x (k0 + 1) _ _ c1 q1 hkn (by omega) (by omega)).mono ?_
      rintro e w2 ⟨⟨g2, rfl, hg20, hs2⟩, hg2⟩
      have hgr3 := hgr2.trans hg2
      replace HROW := hide (HROW.out.gr hg2)
      clear c1 e2 e3 e4
      go_wp2_with (at_builtin; refine wpList_append_own _ rfl _ _ 22 rfl w.heap.size 5 i0 (.int .u8 0) 1 1 Tryd.underlying22 hi hz0 hz1 hz2 rfl (by decide) (.slice (some ⟨g, 0, none⟩) acc.length c) acc.length (acc.map (Value.int .u8)) rfl HROW.out ⟨g2, 0, none⟩ (k0 + 1) (k0 + 1) (List.replicate (k0 + 1) (.int .u8 x)) rfl (by simp) (rep_cells hs2) (fun u hu => by rw [(List.mem_replicate.1 hu).2]; rfl) (by unfold maxLen; omega) (by omega) hgr3.size ?_; intro v' w3 hown hgrow hnil; obtain ⟨g3, c3, rfl, hrow3, hgr4, hbg3⟩ := rowL_app hown (by omega) (by intro j hj; simp [Value.ownBlock] at hj; omega) (Gr.refl w2) hgrow hgr3 rfl)
      go_roundw
      case rel =>
        have hd := HD.out
        rw [← HX.out, ← HK0.out] at hd
        refine ⟨p + 2, acc ++ List.replicate (k0 + 1) x, g3, c3, by omega, by omega, by go_num, by simp, hbg3, hrow3, by simp; omega, ?_, hd, hgr4⟩
        intro z hz
        rcases List.mem_append.1 hz with hz | hz
        · exact habyte z hz
        · rw [(List.mem_replicate.1 hz).2]; exact q1
      case measure => simp; omega

end Go.Proofs.YtakmiafloolpmaaDoor
