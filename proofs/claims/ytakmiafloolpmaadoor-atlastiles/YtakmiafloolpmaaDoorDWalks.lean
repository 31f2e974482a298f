/- What pack's readAlike and readPlain answer. -/
import Derived.Test.YtakmiafloolpmaaDoorERep
import Derived.Test.YtakmiafloolpmaaDoorDMath
namespace Go.Proofs.YtakmiafloolpmaaDoor
open Go.RowKit
set_option maxRecDepth 20000

/-- what reading answers: the costs and how many bytes; or what went wrong -/
def Reads (w : World) (r : Int × List Int × Nat) (v : Value) : Prop :=
  (r.1 = 0 ∧ ∃ g c, v = .tuple #[.slice (some ⟨g, 0, none⟩) r.2.1.length c, .int .i64 r.2.2, .nilIface] ∧ r.2.1.length ≤ c ∧ c ≤ maxLen ∧ Sl w (some ⟨g, 0, none⟩) r.2.1.length (at0 r.2.1)) ∨
  (r.1 ≠ 0 ∧ ∃ k, v = .tuple #[.slice none 0 0, .int .i64 0, .iface 122 (.pointer (some ⟨k, 0, none⟩))] ∧ w.cell? ⟨k, 1, none⟩ = some (.int .i64 r.1))
theorem reads_no {w : World} {r : Int × List Int × Nat} {k : Nat} (h : r.1 ≠ 0) (hc : w.cell? ⟨k, 1, none⟩ = some (.int .i64 r.1)) : Reads w r (.tuple #[.slice none 0 0, .int .i64 0, .iface 122 (.pointer (some ⟨k, 0, none⟩))]) := .inr ⟨h, k, rfl, hc⟩

set_option maxHeartbeats 1000000 in
theorem readAlike_any (a : Option Addr) (B cap n : Nat) (b : Nat → Int) (ga : Nat → Addr) (w : World) (h : Sl w a B b) (hw : Glob w ga) (hc : B ≤ cap) (hcm : cap ≤ maxLen) (n1 : 1 ≤ n) (n2 : n ≤ 256) (hB : 0 < B) (h0 : b 0 = 0) :
    Calls Tryd.prog 80 #[.slice a B cap, .int .i64 n] w fun e w' => (∃ v, e = .returned v ∧ Reads w' (readL n B b) v) ∧ Gr w w' := by
  have e0 := hw.val 0 (by omega)
  have e2 := hw.val 2 (by omega)
  have s0 : sentG 0 = 3 := rfl
  have s2 : sentG 2 = 5 := rfl
  rw [s0] at e0
  rw [s2] at e2
  clear s0 s2
  unfold maxLen at hcm
  obtain ⟨bb, oo, rfl, hbb, hcell⟩ := h.at hB
  by_cases h2 : B < 2
  · have R : readL n B b = (2, [], 0) := by unfold readL; rw [if_neg (by omega), if_pos h0, if_pos h2]
    rw [R]
    clear hcell R
    go_enter Tryd.func80, Tryd.ntmps80
    go_wp2_with (go_at_call 79; refine (faultAt_any 0 _ ga _ hw (by omega)).mono ?_; rintro e w1 ⟨⟨k, rfl, hk, -⟩, hg⟩)
    go_ret3
    exact ⟨⟨_, rfl, reads_no (by simp) hk⟩, (by repeat (first | exact Gr.refl _ | assumption | exact Dr.gr (by assumption) | refine Gr.alloc ?_ _ | refine Gr.drewN ?_ _ | refine Gr.drew ?_ | refine Gr.trans ?_ (by assumption) | refine Gr.trans ?_ (Dr.gr (by assumption))))⟩
  · have c1 := hcell 1 (by omega)
    have q1 := h.byte 1 (by omega)
    by_cases hz : b 1 = 0
    · have R : readL n B b = (3, [], 0) := by unfold readL; rw [if_neg (by omega), if_pos h0, if_neg h2, if_pos hz]
      rw [R]
      have hz' : (b 1 == 0) = true := by simp [hz]
      clear hcell R hz
      go_enter Tryd.func80, Tryd.ntmps80
      go_wp2_with (go_at_call 79; refine (faultAt_any 2 _ ga _ hw (by omega)).mono ?_; rintro e w1 ⟨⟨k, rfl, hk, -⟩, hg⟩)
      go_ret3
      exact ⟨⟨_, rfl, reads_no (by simp) hk⟩, (by repeat (first | exact Gr.refl _ | assumption | exact Dr.gr (by assumption) | refine Gr.alloc ?_ _ | refine Gr.drewN ?_ _ | refine Gr.drew ?_ | refine Gr.trans ?_ (by assumption) | refine Gr.trans ?_ (Dr.gr (by assumption))))⟩
    · have R : readL n B b = (0, List.replicate n (b 1), 2) := by unfold readL; rw [if_neg (by omega), if_pos h0, if_neg h2, if_neg hz]
      rw [R]
      have hz' : (b 1 == 0) = false := by simp [hz]
      have hne : ¬ cap = 1 := by omega
      clear hcell R hz
      go_enter Tryd.func80, Tryd.ntmps80
      go_wp2_with (go_at_call 84; refine (repeat1_any _ _ _ (b 1) _ _ c1 q1 n1 n2).mono ?_; rintro e w1 ⟨⟨g, rfl, hg0, hs⟩, hg⟩)
      go_ret3
      have hs' := hs.congr (g := at0 (List.replicate n (b 1))) (fun i hi => (at0_rep hi).symm)
      refine ⟨⟨_, rfl, .inl ⟨rfl, g, n, ?_, ?_, by unfold maxLen; omega, ?_⟩⟩, hg⟩
      · rw [List.length_replicate]; rfl
      · rw [List.length_replicate]; exact Nat.le_refl _
      · rw [List.length_replicate]; exact hs'

set_option maxHeartbeats 1000000 in
theorem readPlain_any (a : Option Addr) (B cap n : Nat) (b : Nat → Int) (ga : Nat → Addr) (w : World) (h : Sl w a B b) (hw : Glob w ga) (hc : B ≤ cap) (n1 : 1 ≤ n) (n2 : n ≤ 256) (hB : 0 < B) (h0 : b 0 = 1) :
    Calls Tryd.prog 81 #[.slice a B cap, .int .i64 n] w fun e w' => (∃ v, e = .returned v ∧ Reads w' (readL n B b) v) ∧ Gr w w' := by
  have e0 := hw.val 0 (by omega)
  have e2 := hw.val 2 (by omega)
  have s0 : sentG 0 = 3 := rfl
  have s2 : sentG 2 = 5 := rfl
  rw [s0] at e0
  rw [s2] at e2
  clear s0 s2
  obtain ⟨bb, oo, rfl, hbb, hcell⟩ := h.at hB
  by_cases h2 : B < 1 + n
  · have R : readL n B b = (2, [], 0) := by unfold readL; rw [if_neg (by omega), if_neg (by omega), if_pos h0, if_pos h2]
    rw [R]
    clear hcell R
    go_enter Tryd.func81, Tryd.ntmps81
    go_wp2_with (go_at_call 79; refine (faultAt_any 0 _ ga _ hw (by omega)).mono ?_; rintro e w1 ⟨⟨k, rfl, hk, -⟩, hg⟩)
    go_ret3
    exact ⟨⟨_, rfl, reads_no (by simp) hk⟩, (by repeat (first | exact Gr.refl _ | assumption | exact Dr.gr (by assumption) | refine Gr.alloc ?_ _ | refine Gr.drewN ?_ _ | refine Gr.drew ?_ | refine Gr.trans ?_ (by assumption) | refine Gr.trans ?_ (Dr.gr (by assumption))))⟩
  · have hsl : Sl w (some ⟨bb, oo + 1, none⟩) n (fun i => b (1 + i)) := by
      refine ⟨fun i hi => h.byte _ (by omega), .inr ⟨bb, oo + 1, rfl, hbb, fun i hi => ?_⟩⟩
      rw [Nat.add_assoc]
      exact hcell (1 + i) (by omega)
    have hne : ¬ cap = 1 := by omega
    clear hcell
    cases hfu : fullB n (fun i => b (1 + i))
    · have R : readL n B b = (3, [], 0) := by unfold readL; rw [if_neg (by omega), if_neg (by omega), if_pos h0, if_neg h2, if_neg (by rw [hfu]; simp)]
      rw [R]
      clear R
      go_enter Tryd.func81, Tryd.ntmps81
      go_wp2_with (first | (go_at_call 85; refine (clone_any _ _ _ (fun i => b (1 + i)) _ hsl (by omega) (by omega)).mono ?_; rintro e w1 ⟨⟨g, c', rfl, hown, hge⟩, hg⟩; replace e2 := cell_gr e2 hg) | (go_at_call 37; refine (indexByte_any _ _ _ (fun i => b (1 + i)) _ (OwnB.sl ⟨hown, hsl.byte⟩).2.2.2.2).mono ?_; rintro e w2 ⟨⟨r, rfl, hr⟩, hw2⟩; subst hw2; rw [hfu] at hr; have hr0 : 0 ≤ r := (by simpa using hr); clear hr) | (go_at_call 79; refine (faultAt_any 2 _ ga _ (hw.gr hg) (by omega)).mono ?_; rintro e w3 ⟨⟨k, rfl, hk, -⟩, hg3⟩))
      go_ret3
      exact ⟨⟨_, rfl, reads_no (by simp) hk⟩, (by repeat (first | exact Gr.refl _ | assumption | exact Dr.gr (by assumption) | refine Gr.alloc ?_ _ | refine Gr.drewN ?_ _ | refine Gr.drew ?_ | refine Gr.trans ?_ (by assumption) | refine Gr.trans ?_ (Dr.gr (by assumption))))⟩
    · have R : readL n B b = (0, lst n (fun i => b (1 + i)), 1 + n) := by unfold readL; rw [if_neg (by omega), if_neg (by omega), if_pos h0, if_neg h2, if_pos hfu]
      rw [R]
      clear R
      go_enter Tryd.func81, Tryd.ntmps81
      go_wp2_with (first | (go_at_call 85; refine (clone_any _ _ _ (fun i => b (1 + i)) _ hsl (by omega) (by omega)).mono ?_; rintro e w1 ⟨⟨g, c', rfl, hown, hge⟩, hg⟩; have hos := OwnB.sl ⟨hown, hsl.byte⟩) | (go_at_call 37; refine (indexByte_any _ _ _ (fun i => b (1 + i)) _ hos.2.2.2.2).mono ?_; rintro e w2 ⟨⟨r, rfl, hr⟩, hw2⟩; subst hw2; rw [hfu] at hr; have hr0 : r < 0 := (by simpa using hr); clear hr))
      go_ret3
      have hs' := hos.2.2.2.2.congr (g := at0 (lst n (fun i => b (1 + i)))) (fun i hi => (at0_lst (f := fun i => b (1 + i)) hi).symm)
      refine ⟨⟨_, rfl, .inl ⟨rfl, g, c', ?_, ?_, hos.2.1, ?_⟩⟩, (by repeat (first | exact Gr.refl _ | assumption | exact Dr.gr (by assumption) | refine Gr.alloc ?_ _ | refine Gr.drewN ?_ _ | refine Gr.drew ?_ | refine Gr.trans ?_ (by assumption) | refine Gr.trans ?_ (Dr.gr (by assumption))))⟩
      · simp only [lst_len]; push_cast; rfl
      · simp only [lst_len]; exact hos.1
      · simp only [lst_len]; exact hs'

end Go.Proofs.YtakmiafloolpmaaDoor
