/- AtlasReads' walk: it answers true at every input where the package's variables hold what its text lays; nothing that was there is written. -/
import Derived.Test.YtakmiafloolpmaaDoorALay
import Derived.Test.YtakmiafloolpmaaDoorATold
import Derived.Test.YtakmiafloolpmaaDoorARef2
import Derived.Test.YtakmiafloolpmaaDoorRAll
namespace Go.Proofs.YtakmiafloolpmaaDoor
open Go.RowKit
set_option maxRecDepth 20000

theorem keepJ {w u u' : World} {B7 bt x tb y : Nat} {v0 v1 v2 : Value} (h : u.cell? ⟨B7, 2, none⟩ = some v0 ∧ u.cell? ⟨bt, x, none⟩ = some v1 ∧ u.cell? ⟨tb, y, none⟩ = some v2 ∧ Gr w u) (g : Gr u u') :
    u'.cell? ⟨B7, 2, none⟩ = some v0 ∧ u'.cell? ⟨bt, x, none⟩ = some v1 ∧ u'.cell? ⟨tb, y, none⟩ = some v2 ∧ Gr w u' :=
  ⟨cell_gr h.1 g, cell_gr h.2.1 g, cell_gr h.2.2.1 g, h.2.2.2.trans g⟩
theorem keepS {w u : World} {B7 bt x tb y g q : Nat} {v0 v1 v2 v : Value} (h : u.cell? ⟨B7, 2, none⟩ = some v0 ∧ u.cell? ⟨bt, x, none⟩ = some v1 ∧ u.cell? ⟨tb, y, none⟩ = some v2 ∧ Gr w u) (h1 : B7 ≠ g) (h2 : bt ≠ g) (h3 : tb ≠ g) (hg : w.heap.size ≤ g) :
    (u.setCell ⟨g, q, none⟩ v).cell? ⟨B7, 2, none⟩ = some v0 ∧ (u.setCell ⟨g, q, none⟩ v).cell? ⟨bt, x, none⟩ = some v1 ∧ (u.setCell ⟨g, q, none⟩ v).cell? ⟨tb, y, none⟩ = some v2 ∧ Gr w (u.setCell ⟨g, q, none⟩ v) := by
  refine ⟨?_, ?_, ?_, h.2.2.2.set hg _⟩
  · rw [World.cell?_setCell_far _ _ _ _ (by exact fun e => h1 e.symm)]; exact h.1
  · rw [World.cell?_setCell_far _ _ _ _ (by exact fun e => h2 e.symm)]; exact h.2.1
  · rw [World.cell?_setCell_far _ _ _ _ (by exact fun e => h3 e.symm)]; exact h.2.2.1
theorem Row.at {w : World} {g N q : Nat} {F : Nat → Int} (h : Row w g N F) (hq : q < N) : w.cell? ⟨g, q, none⟩ = some (.int .u8 (F q)) ∧ w.frozen? ⟨g, q, none⟩ = false := by
  unfold Row at h
  exact ⟨by simp [World.cell?, h, cel_get _ _ _ hq], by simp [World.frozen?, h]⟩

set_option maxHeartbeats 4000000 in
theorem joined_any (W H : Int) (a : Option Addr) (n cap N : Nat) (t : Nat → Ti) (ts : List (List Int)) (w : World) (h : TSl w a n t) (hm : mayB W H = true) (hn : n = cntS W H) (hN : (N : Int) = W * H)
    (ht : ∀ s, s < n → (t s).W = twF W s ∧ (t s).H = thF W H s ∧ (t s).n = tnF W H s ∧ ∀ i, i < tnF W H s → (t s).f i = at0 (ts.getD s []) i) :
    Calls Tryd.prog 45 #[.int .i64 W, .int .i64 H, .slice a n cap] w fun e w' => (∃ g, e = .returned (.agg #[.int .i64 W, .int .i64 H, .slice (some ⟨g, 0, none⟩) N N]) ∧ Row w' g N (joinF W ts) ∧ w.heap.size ≤ g) ∧ Gr w w' := by
  obtain ⟨i0, hi, hz0, hz1, hz2⟩ := info_parts info_u8
  have mm := may_mul hm
  have hcn := cntS_eq hm
  obtain ⟨b, o, rfl, hB, hcell⟩ : ∃ b o, a = some ⟨b, o, none⟩ ∧ b < w.heap.size ∧ ∀ i, i < n → w.cell? ⟨b, o + i * 3, none⟩ = some (.int .i64 (t i).W) ∧ w.cell? ⟨b, o + i * 3 + 1, none⟩ = some (.int .i64 (t i).H) ∧ w.cell? ⟨b, o + i * 3 + 2, none⟩ = some (.slice (t i).a (t i).n (t i).c) := by
    rcases h.has with h0 | h1
    · omega
    · exact h1
  have hmul : W * H = (N : Int) := hN.symm
  have hmk := run_make_row' (P := Tryd.prog) 22 5 (.int .u8 0) 1 Tryd.underlying22 info_u8 rfl .i64 .i64 N (by omega) (by omega)
  have hn4 : n ≤ 4096 := by omega
  have HT := hide ht
  have HCE := hide hcell
  have HN := hide hN
  have HHN := hide hn
  have HCN := hide hcn
  clear ht hcell hN hcn hn
  go_enter Tryd.func45, Tryd.ntmps45
  go_wp2_with fail
  have s0 : Row ((w.alloc (.cells #[.int .i64 0, .int .i64 0, .slice none 0 0] 24)).alloc (.cells (madeCells #[.int .u8 0] N) 5)) (w.heap.size + 1) N (layF W ts 0 0) := by
    have := Row.made (w.alloc (.cells #[.int .i64 0, .int .i64 0, .slice none 0 0] 24)) N
    rw [World.size_alloc] at this
    exact this.congr fun i hi => (lay_none W ts hm HN.out hi).symm
  have s1 := ((tri_alloc w (.int .i64 0) (.int .i64 0) (.slice none 0 0) 24).alloc (.cells (madeCells #[.int .u8 0] N) 5)).alloc (.cells #[.int .i64 W, .int .i64 H, .slice (some ⟨w.heap.size + 1, 0, none⟩) N N] 24)
  have s2 := tri_alloc ((w.alloc (.cells #[.int .i64 0, .int .i64 0, .slice none 0 0] 24)).alloc (.cells (madeCells #[.int .u8 0] N) 5)) (.int .i64 W) (.int .i64 H) (.slice (some ⟨w.heap.size + 1, 0, none⟩) N N) 24
  have s3 := Row.of s0 ((Gr.refl _).alloc (.cells #[.int .i64 W, .int .i64 H, .slice (some ⟨w.heap.size + 1, 0, none⟩) N N] 24))
  simp only [World.size_alloc] at s2
  have s4 : Gr w (((w.alloc (.cells #[.int .i64 0, .int .i64 0, .slice none 0 0] 24)).alloc (.cells (madeCells #[.int .u8 0] N) 5)).alloc (.cells #[.int .i64 W, .int .i64 H, .slice (some ⟨w.heap.size + 1, 0, none⟩) N N] 24)) := (((Gr.refl w).alloc _).alloc _).alloc _
  generalize (((w.alloc (.cells #[.int .i64 0, .int .i64 0, .slice none 0 0] 24)).alloc (.cells (madeCells #[.int .u8 0] N) 5)).alloc (.cells #[.int .i64 W, .int .i64 H, .slice (some ⟨w.heap.size + 1, 0, none⟩) N N] 24)) = u0 at *
  clear s0
  have hB7 : Hid (w.heap.size + 1 + 1 ≠ w.heap.size + 1 ∧ w.heap.size ≠ w.heap.size + 1 ∧ w.heap.size + 1 + 1 ≠ w.heap.size) := hide (by omega)
  generalize w.heap.size + 1 + 1 = B7 at *
  obtain ⟨B6, hB6⟩ : ∃ B6, w.heap.size + 1 = B6 := ⟨_, rfl⟩
  rw [hB6] at s2 s3 hB7
  simp only [hB6]
  have hB6w : w.heap.size ≤ B6 := by omega
  clear hB6
  go_loopw [8] (fun i u => ∃ (s : Nat), s ≤ n ∧ i = .int .i64 s ∧ Row u B6 N (layF W ts s 0) ∧ u.rowIs w.heap.size 24 3 (tri (.int .i64 0) (.int .i64 0) (.slice none 0 0)) ∧ u.rowIs B7 24 3 (tri (.int .i64 W) (.int .i64 H) (.slice (some ⟨B6, 0, none⟩) N N)) ∧ Gr w u) (fun i _ => n - (intOf i).toNat)
  case atStart => exact ⟨0, Nat.zero_le _, rfl, s3, s1, s2, s4⟩
  case round =>
    clear s1 s2 s3 s4
    obtain ⟨s, hs, rfl, hrow, hres, hmb, hgr⟩ := hrel
    by_cases hlt : s < n
    · obtain ⟨t1, t2, t3, t4⟩ := HT.out s hlt
      obtain ⟨-, -, k3⟩ := HCE.out s hlt
      have hsc : s < cntS W H := by have := HHN.out; omega
      have hs1 := sec_of hsc
      have htn := tnF_eq hs1
      rw [t3] at k3
      obtain ⟨hsl, hc1, hc2⟩ := h.sl s hlt
      rw [t3] at hsl hc1
      obtain ⟨tb, tof, ha, htb, htc⟩ := hsl.at (by omega)
      rw [ha] at k3
      have HBY := hide hsl.byte
      have HLO := hide (fun k (hk : k < tnF W H s) c (hc : c < N) => lay_one (ts := ts) hm HN.out hsc hk hc)
      have HC := hide (fun r hr => (gcF_eq hs1 (l := r) hr).1)
      have HL := hide (fun r hr => gcF_lt hs1 (l := r) hr HN.out)
      have hgy := fun (l : Int) (u : World) (h0 : 0 ≤ l) (h1 : l < (tnF W H s : Int)) => rglobal_yes W H s l u hs1 h0 (by rw [← htn.1]; exact h1)
      have HG := hide hgy
      have HNX := hide (fun c (hc : c < N) => lay_next (ts := ts) (s := s) hm HN.out hc)
      have HTF := hide t4
      have HTC := hide htc
      have HK3 := hide k3
      obtain ⟨Tn, hTn⟩ : ∃ Tn : Nat, tnF W H s = Tn := ⟨_, rfl⟩
      rw [hTn] at htn HC HL HTF HTC HNX hc1 HLO HG HK3 HBY
      generalize (t s).f = tf at *
      generalize (t s).c = tc at *
      obtain ⟨-, htn1, htn2⟩ := htn
      have hR0 := hrow
      have hE0 := hres
      have hM0 := hmb
      have hG0 := hgr
      clear hsl hgy t1 t2 t3 t4 htc hs1 hsc hTn ha k3
      go_wp2_with fail
      go_loopw [9] (fun i u => ∃ (k : Nat), k ≤ Tn ∧ i = .int .i64 k ∧ Row u B6 N (layF W ts s k) ∧ u.rowIs w.heap.size 24 3 (tri (.int .i64 0) (.int .i64 0) (.slice none 0 0)) ∧ u.rowIs B7 24 3 (tri (.int .i64 W) (.int .i64 H) (.slice (some ⟨B6, 0, none⟩) N N)) ∧ Gr w u) (fun i _ => Tn - (intOf i).toNat)
      case atStart => exact ⟨0, Nat.zero_le _, rfl, hR0, hE0, hM0, hG0⟩
      case round =>
        clear hR0 hE0 hM0 hG0 hrow hres hmb hgr
        obtain ⟨k, hk, rfl, hrow, hres, hmb, hgr⟩ := hrel
        have k3 := cell_gr HK3.out hgr
        have k3' : wr.cell? ⟨b, o + (s * 3 + 2), none⟩ = some (.slice (some ⟨tb, tof, none⟩) Tn tc) := by rw [← Nat.add_assoc]; exact k3
        by_cases hlt2 : k < Tn
        · obtain ⟨q, hq⟩ : ∃ q, gcF W s k = q := ⟨_, rfl⟩
          have hgq := HC.out k hlt2
          have hqn := HL.out k hlt2
          rw [hq] at hgq hqn
          have hlo := HLO.out k hlt2
          rw [hq] at hlo
          have hck := cell_gr (HTC.out k hlt2) hgr
          have hby := HBY.out k hlt2
          have HGQ := hide hgq.symm
          have HLL := hide hlo
          have HR := hide hrow
          have HRE := hide hres
          have HMB := hide hmb
          obtain ⟨-, -, d3, -, -, -⟩ := row_cells hmb
          have hkT : (k : Int) < (Tn : Int) := by omega
          have hqN : (q : Int) < (N : Int) := by omega
          have hk0 : (0 : Int) ≤ (k : Int) := by omega
          have hq0 : (0 : Int) ≤ (q : Int) := by omega
          clear hgq hlo hrow hres hmb hq
          have n1 : b ≠ B6 := by omega
          have n2 : tb ≠ B6 := by omega
          have n3 := hB7.out.1
          have HN3 := hide n3
          clear n3
          go_wp2_with fail
          go_region_held3 (fun u => u.cell? ⟨B7, 2, none⟩ = some (.slice (some ⟨B6, 0, none⟩) N N) ∧ u.cell? ⟨b, o + s * 3 + 2, none⟩ = some (.slice (some ⟨tb, tof, none⟩) Tn tc) ∧ u.cell? ⟨tb, tof + k, none⟩ = some (.int .u8 (tf k)) ∧ Gr w u) (first | exact ⟨d3, k3, hck, hgr.drew⟩ | (have hS := ‹_ ∧ _ ∧ _ ∧ Gr w _›; first | exact keepJ hS (by (repeat (first | (with_reducible exact Gr.refl _) | (with_reducible assumption) | (with_reducible refine Gr.alloc ?_ _) | (with_reducible refine Gr.drewN ?_ _) | (with_reducible refine Gr.drew ?_) | (with_reducible refine Gr.set ?_ (by dsimp only; omega) _) | (with_reducible refine Gr.trans ?_ (by with_reducible assumption)))); first | done | fail) | exact keepS hS HN3.out n1 n2 hB6w)) ((go_at_call 39; refine (HG.out _ _ (by omega) (by omega)).mono ?_; rintro e w2 ⟨rfl, hd⟩; have hg2 := Dr.gr hd; clear hd; rw [HGQ.out]; obtain ⟨cz, fz⟩ := Row.at (Row.of HR.out ((Gr.refl wr).drew.trans hg2)) hqn))
          have hrw := (Row.of HR.out ((Gr.refl wr).drew.trans hg2)).set (k := q) (x := tf k)
          have hre := (row_gr HRE.out ((Gr.refl wr).drew.trans hg2)).setOther (a := ⟨B6, q, none⟩) hB7.out.2.1 (.int .u8 (tf k))
          have hmb := (row_gr HMB.out ((Gr.refl wr).drew.trans hg2)).setOther (a := ⟨B6, q, none⟩) HN3.out (.int .u8 (tf k))
          have hgz : Gr w (w2.setCell ⟨B6, q, none⟩ (.int .u8 (tf k))) := (hgr.drew.trans hg2).set (p := ⟨B6, q, none⟩) hB6w _
          clear cz fz
          generalize (w2.setCell ⟨B6, q, none⟩ (.int .u8 (tf k))) = u5 at *
          have HA := hide hrw
          have HB := hide hre
          have HCC := hide hmb
          clear hrw hre hmb
          go_wp2
          go_roundw
          case rel =>
            refine ⟨k + 1, by omega, by go_num, HA.out.congr fun c hc => ?_, HB.out, HCC.out, hgz⟩
            rw [HLL.out c hc]
            by_cases e : c = q
            · rw [if_pos e, if_pos e, HTF.out k hlt2]
            · rw [if_neg e, if_neg e]
          case measure => simp [intOf]; omega
        · have hkT : k = Tn := by omega
          subst hkT
          have HR := hide hrow
          have HRE := hide hres
          have HMB := hide hmb
          clear hrow hres hmb
          go_wp2
          go_roundw
          case rel => exact ⟨s + 1, by omega, by go_num, HR.out.congr fun c hc => HNX.out c hc, HRE.out, HMB.out, hgr⟩
          case measure => simp [intOf]; omega
    · have hsn : s = n := by omega
      subst hsn
      have hall : Row wr B6 N (joinF W ts) := hrow.congr fun c hc => by rw [HHN.out]; exact lay_all hm HN.out hc
      obtain ⟨e1, e2, e3, j1, j2, j3⟩ := row_cells hres
      obtain ⟨d1, d2, d3, -, -, -⟩ := row_cells hmb
      have n3 : B6 ≠ w.heap.size := fun e => hB7.out.2.1 e.symm
      have HA := hide hall
      clear hall hrow hres hmb
      go_wp2
      exact bodyPost_ret (v := .agg #[.int .i64 W, .int .i64 H, .slice (some ⟨B6, 0, none⟩) N N]) (by simp [results, Tryd.results45, go_sem, e1, e2, e3]) rfl ⟨⟨B6, rfl, ((HA.out.setO (p := ⟨w.heap.size, 0, none⟩) n3).setO (p := ⟨w.heap.size, 1, none⟩) n3).setO (p := ⟨w.heap.size, 2, none⟩) n3, hB6w⟩, gr_set3 hgr (Nat.le_refl _)⟩

theorem rget_err (k : Int) (a : Option Addr) (B cap : Nat) (W H : Int) (n : Nat) (b : Nat → Int) (w : World) (h : Sl w a B b) (hc : B ≤ cap) (hB7 : B ≤ 1000000) (hW : 1 ≤ W ∧ W ≤ 16) (hH : 1 ≤ H ∧ H ≤ 16) (hn : (n : Int) = W * H) (hk : k ≠ 0) (hr : getL n B b = (k, [], 0)) :
    Calls Tryd.prog 44 #[.slice a B cap, .int .i64 W, .int .i64 H] w fun e w' => e = .returned (.tuple #[.agg #[.int .i64 0, .int .i64 0, .slice none 0 0], .int .i64 0, .int .i64 k]) ∧ Gr w w' := by
  have q := rget_any a B cap W H n b w h hc hB7 hW hH hn
  rw [hr] at q
  refine q.mono ?_
  rintro e w1 ⟨⟨v, rfl, hv⟩, hg⟩
  rcases hv with ⟨hz, _⟩ | ⟨_, rfl⟩
  · exact absurd hz hk
  · exact ⟨rfl, hg⟩
theorem rget_ok (L : List Int) (u : Nat) (a : Option Addr) (B cap : Nat) (W H : Int) (n : Nat) (b : Nat → Int) (w : World) (h : Sl w a B b) (hc : B ≤ cap) (hB7 : B ≤ 1000000) (hW : 1 ≤ W ∧ W ≤ 16) (hH : 1 ≤ H ∧ H ≤ 16) (hn : (n : Int) = W * H) (hr : getL n B b = (0, L, u)) :
    Calls Tryd.prog 44 #[.slice a B cap, .int .i64 W, .int .i64 H] w fun e w' => (∃ g c, e = .returned (.tuple #[.agg #[.int .i64 W, .int .i64 H, .slice (some ⟨g, 0, none⟩) L.length c], .int .i64 u, .int .i64 0]) ∧ L.length ≤ c ∧ c ≤ maxLen ∧ Sl w' (some ⟨g, 0, none⟩) L.length (at0 L)) ∧ Gr w w' := by
  have q := rget_any a B cap W H n b w h hc hB7 hW hH hn
  rw [hr] at q
  refine q.mono ?_
  rintro e w1 ⟨⟨v, rfl, hv⟩, hg⟩
  rcases hv with ⟨_, g, c, rfl, h1, h2, h3⟩ | ⟨hz, _⟩
  · exact ⟨⟨g, c, rfl, h1, h2, h3⟩, hg⟩
  · exact absurd rfl hz

set_option maxHeartbeats 1000000 in
theorem rgetM_short (a : Option Addr) (B cap : Nat) (b : Nat → Int) (w : World) (h4 : B < 4) :
    Calls Tryd.prog 24 #[.slice a B cap] w fun e w' => (∃ v, e = .returned v ∧ GetsM w' B b v) ∧ Gr w w' := by
  have R : getM B b = (2, []) := by unfold getM; rw [if_pos h4]
  have i2 : (B : Int) < 4 := by omega
  go_enter Tryd.func24, Tryd.ntmps24
  go_wp2_with fail
  refine bodyPost_ret (v := .tuple #[.agg #[.int .i64 0, .int .i64 0, .slice none 0 0], .int .i64 2]) (by simp [results, Tryd.results24, go_sem]) rfl ?_
  refine ⟨⟨_, rfl, .inr ?_⟩, (by repeat (first | exact Gr.refl _ | assumption | exact Dr.gr (by assumption) | refine Gr.alloc ?_ _ | refine Gr.drewN ?_ _ | refine Gr.drew ?_ | (refine Gr.set ?_ (by first | exact Nat.le_refl _ | exact Nat.le_succ _ | (show _ ≤ _; omega) | (simp only [World.size_alloc] at *; omega)) _) | refine Gr.trans ?_ (by assumption) | refine Gr.trans ?_ (Dr.gr (by assumption))))⟩
  rw [R]
  exact ⟨by decide, rfl⟩

set_option maxHeartbeats 4000000 in
theorem rgetM_bad (a : Option Addr) (B cap : Nat) (b : Nat → Int) (w : World) (h : Sl w a B b) (hB7 : B ≤ 1000000) (h4 : 4 ≤ B) (hm : mayB (wOf b) (hOf b) = false) :
    Calls Tryd.prog 24 #[.slice a B cap] w fun e w' => (∃ v, e = .returned v ∧ GetsM w' B b v) ∧ Gr w w' := by
  have HGM : Hid (getM B b = (3, [])) := hide (by unfold getM; rw [if_neg (by omega), if_pos hm])
  obtain ⟨bb, oo, rfl, hbb, hcell⟩ := h.at (by omega)
  have c0 := hcell 0 (by omega)
  rw [Nat.add_zero] at c0
  have c1 := hcell 1 (by omega)
  have c2 := hcell 2 (by omega)
  have c3 := hcell 3 (by omega)
  have y0 := h.byte 0 (by omega)
  have y1 := h.byte 1 (by omega)
  have y2 := h.byte 2 (by omega)
  have y3 := h.byte 3 (by omega)
  have o1 : b 0 + 256 * b 1 = wOf b := rfl
  have o2 : b 2 + 256 * b 3 = hOf b := rfl
  clear h hcell
  generalize wOf b = W at *
  generalize hOf b = H at *
  generalize b 0 = b0 at *
  generalize b 1 = b1 at *
  generalize b 2 = b2 at *
  generalize b 3 = b3 at *
  have i1 : (4 : Int) ≤ (B : Int) := by omega
  have i2 : ¬ (B : Int) < 4 := by omega
  have R1 := hide (tri_alloc w (.int .i64 0) (.int .i64 0) (.slice none 0 0) 24)
  go_enter Tryd.func24, Tryd.ntmps24
  go_wp2_with fail
  go_quiet (fail)
  clear o1 o2 c0 c1 c2 c3 y0 y1 y2 y3
  go_wp2_with (go_at_call 34; refine (rmay_any _ _ _).mono ?_; rintro e w1 ⟨rfl, hd⟩; rw [hm]; have hg1 := Dr.gr hd; obtain ⟨e1, e2, e3, j1, j2, j3⟩ := row_cells (row_gr R1.out (((Gr.refl _).drewN nq).trans hg1)))
  have hG : Gr w w1 := (((Gr.refl w).alloc _).drewN nq).trans hg1
  refine bodyPost_ret (v := .tuple #[.agg #[.int .i64 0, .int .i64 0, .slice none 0 0], .int .i64 3]) (by simp [results, Tryd.results24, go_sem, e1, e2, e3]) rfl ?_
  refine ⟨⟨_, rfl, .inr ?_⟩, gr_set3 hG (Nat.le_refl _)⟩
  rw [HGM.out]
  exact ⟨by decide, rfl⟩

set_option maxHeartbeats 4000000 in
theorem rgetM_yes (a : Option Addr) (B cap : Nat) (b : Nat → Int) (w : World) (h : Sl w a B b) (hc : B ≤ cap) (hcm : cap ≤ maxLen) (hB7 : B ≤ 1000000) (h4 : 4 ≤ B) (hm : mayB (wOf b) (hOf b) = true) :
    Calls Tryd.prog 24 #[.slice a B cap] w fun e w' => (∃ v, e = .returned v ∧ GetsM w' B b v) ∧ Gr w w' := by
  obtain ⟨i3, hi3, hy0, hy1, hy2⟩ := info_parts3 info_tile
  have hgm : getM B b = if (rdS (wOf b) (hOf b) B b (cntS (wOf b) (hOf b))).1 ≠ 0 then ((rdS (wOf b) (hOf b) B b (cntS (wOf b) (hOf b))).1, []) else if (rdS (wOf b) (hOf b) B b (cntS (wOf b) (hOf b))).2.2 ≠ B then (3, []) else (0, (rdS (wOf b) (hOf b) B b (cntS (wOf b) (hOf b))).2.1) := by
    unfold getM
    rw [if_neg (by omega), if_neg (by simp [hm])]
  have hjj := fun ts (hg : getM B b = (0, ts)) => (getM_ok h.byte hg).2.2.2.1
  obtain ⟨bb, oo, rfl, hbb, hcell⟩ := h.at (by omega)
  have c0 := hcell 0 (by omega)
  rw [Nat.add_zero] at c0
  have c1 := hcell 1 (by omega)
  have c2 := hcell 2 (by omega)
  have c3 := hcell 3 (by omega)
  have y0 := h.byte 0 (by omega)
  have y1 := h.byte 1 (by omega)
  have y2 := h.byte 2 (by omega)
  have y3 := h.byte 3 (by omega)
  have o1 : b 0 + 256 * b 1 = wOf b := rfl
  have o2 : b 2 + 256 * b 3 = hOf b := rfl
  have hcn := cntS_eq hm
  have hci := cntS_int (wOf b) (hOf b)
  have hrok := fun s ts p (hs : s ≤ cntS (wOf b) (hOf b)) => rd_ok (W := wOf b) (H := hOf b) h.byte h4 s ts p hs
  have HB := hide h.byte
  have hSL := fun (p : Nat) (a' : Option Addr) (ha : p < B → a' = some ⟨bb, oo + p, none⟩) => h.cut (k := p) (a' := a') (fun hk b' o' e => by cases e; exact ha hk)
  have mm := may_mul hm
  clear h hcell
  generalize hWb : wOf b = W at *
  generalize hHb : hOf b = H at *
  have HWB := hide hWb
  have HHB := hide hHb
  generalize b 0 = b0 at *
  generalize b 1 = b1 at *
  generalize b 2 = b2 at *
  generalize b 3 = b3 at *
  obtain ⟨N, hN⟩ : ∃ N : Nat, (N : Int) = W * H := ⟨(W * H).toNat, by omega⟩
  have HNN := hide hN
  have hN6 : N ≤ 1048576 := by omega
  have i1 : (4 : Int) ≤ (B : Int) := by omega
  have i2 : ¬ (B : Int) < 4 := by omega
  have R1 := tri_alloc w (.int .i64 0) (.int .i64 0) (.slice none 0 0) 24
  have hU : (w.alloc (.cells #[.int .i64 0, .int .i64 0, .slice none 0 0] 24)).heap.size = w.heap.size + 1 := World.size_alloc _ _
  have hUw : Gr w (w.alloc (.cells #[.int .i64 0, .int .i64 0, .slice none 0 0] 24)) := (Gr.refl w).alloc _
  obtain ⟨C, hC⟩ : ∃ C, cntS W H = C := ⟨_, rfl⟩
  rw [hC] at hcn hci hrok hgm
  obtain ⟨hcn0, hcn1, hcn2⟩ := hcn
  have HCI := hide hci
  have HCC := hide hC
  have HSZ := hide (fun (s : Nat) (u : World) (hs : s < C) => rsize_yes W H s u (sec_of (by omega)))
  have HTN := hide (fun s (hs : s < C) => tnF_eq (W := W) (H := H) (s := s) (sec_of (by omega)))
  have HSBD := hide (fun s (hs : s < C) => size_bd (w := W) (h := H) (s := s) (sec_of (by omega)))
  have HOK := hide hrok
  have HGM := hide hgm
  have HJJ := hide hjj
  have HSL := hide hSL
  unfold maxLen at hcm
  clear hci hcn0 hC hWb hHb hgm hjj hSL hrok hN mm
  go_enter Tryd.func24, Tryd.ntmps24
  go_wp2_with fail
  go_quiet (fail)
  clear o1 o2 c0 c1 c2 c3 y0 y1 y2 y3
  go_wp2_with (go_at_call 34; refine (rmay_any _ _ _).mono ?_; rintro e w1 ⟨rfl, hd⟩; rw [hm]; have hg1 := Dr.gr hd; clear hd)
  have hG : Gr (w.alloc (.cells #[.int .i64 0, .int .i64 0, .slice none 0 0] 24)) w1 := ((Gr.refl _).drewN nq).trans hg1
  clear hg1
  generalize (w.alloc (.cells #[.int .i64 0, .int .i64 0, .slice none 0 0] 24)) = U at *
  go_loopw [6, 7, 8] (fun tv pv i u => ∃ (s p : Nat) (ts : List (List Int)) (g c : Nat → Nat), s ≤ C ∧ i = .int .i64 s ∧ pv = .int .i64 p ∧ rdS W H B b s = (0, ts, p) ∧ Tls u (w.heap.size + 1) tv W H ts g c ∧ Gr U u) (fun _ _ i _ => C - (intOf i).toNat)
  case atStart => exact ⟨0, 4, [], fun _ => 0, fun _ => 0, Nat.zero_le _, rfl, rfl, rfl, Tls.nothing _ _ _ _ _ _, hG⟩
  case round =>
    obtain ⟨s, p, ts, g, c, hs, rfl, rfl, hrd, htl, hgr⟩ := hrel
    obtain ⟨tl1, p4, pB, -⟩ := HOK.out s ts p hs hrd
    have htv : ∃ ta tn tc, u6 = .slice ta tn tc := by
      rcases htl.own.2 with ⟨e, _⟩ | ⟨b', cap', cur, e, _⟩
      · exact ⟨_, _, _, e⟩
      · exact ⟨_, _, _, e⟩
    obtain ⟨ta, tn, tc, rfl⟩ := htv
    have pc : (p : Int) ≤ (cap : Int) := by omega
    have pB' : (p : Int) ≤ (B : Int) := by omega
    by_cases hlt : s < C
    · obtain ⟨t1, t2, t3⟩ := HTN.out s hlt
      obtain ⟨z1, z2, z3, z4, -, -⟩ := HSBD.out s hlt
      have HSY := hide (fun u => HSZ.out s u hlt)
      have HTL := hide htl
      have HRD := hide hrd
      have HT1 := hide t1
      clear htl hrd t1
      by_cases hk : (getL (tnF W H s) (B - p) (fun i => b (p + i))).1 = 0
      · obtain ⟨L, u, e1⟩ : ∃ L u, getL (tnF W H s) (B - p) (fun i => b (p + i)) = (0, L, u) := ⟨_, _, Prod.ext hk rfl⟩
        obtain ⟨gl0, -, gl1, -, gl3, -⟩ := getL_ok (fun i hi => HB.out (p + i) (by omega)) t2 e1
        obtain ⟨-, -, -, gl4, gl5, -⟩ := readL_ok (fun i hi => HB.out (p + i) (by omega)) t2 gl0
        have hrd2 := rd_step HRD.out e1
        have hget := fun (v : World) (hv : Gr w v) => rget_ok L u (some ⟨bb, oo + p, none⟩) (B - p) (cap - p) (twF W s) (thF W H s) (tnF W H s) (fun i => b (p + i)) v ((HSL.out p _ (fun _ => rfl)).gr hv) (by omega) (by omega) ⟨z1, z2⟩ ⟨z3, z4⟩ HT1.out e1
        rw [gl1] at hget
        have HGE := hide hget
        have HR2 := hide hrd2
        have HOW : Hid (∀ v, Gr wr v → v.ownsRow (w.heap.size + 1) 31 3 (.slice ta tn tc) s (tcs W H g c s)) := hide (fun v hv => by
          have := (HTL.out.gr hv).own
          rw [tl1] at this
          exact this)
        have hwr := hgr.size
        have pcap : p < cap := by omega
        have npc : ¬ cap = p := by omega
        clear hk e1 hrd2 hget gl0
        go_wp2_with (first | (go_at_call 12; refine (rcount_any _ _ _).mono ?_; rintro e w2 ⟨rfl, hd2⟩; rw [← HCI.out]; have hg2 := Dr.gr hd2; clear hd2) | (go_at_call 38; refine (HSY.out _).mono ?_; rintro e w3 ⟨rfl, hd3⟩; have hg3 := Dr.gr hd3; clear hd3) | (go_at_call 44; refine (HGE.out _ (hUw.trans (hgr.trans (hg2.trans hg3)))).mono ?_; rintro e w4 ⟨⟨g4, c4, rfl, q1, q2, hs4⟩, hg4⟩; have hg24 := (hg2.trans (hg3.trans hg4)) ) | (at_builtin; refine wpList_append_own _ rfl _ _ 49 rfl (w.heap.size + 1) 31 i3 (.agg #[.int .i64 0, .int .i64 0, .slice none 0 0]) 3 40 Tryd.underlying49 hi3 hy0 hy1 hy2 rfl (by decide) (.slice ta tn tc) s (tcs W H g c s) rfl (HOW.out _ (hg24.trans (by (repeat (first | (with_reducible exact Gr.refl _) | (with_reducible assumption) | (with_reducible refine Gr.alloc ?_ _) | (with_reducible refine Gr.drewN ?_ _) | (with_reducible refine Gr.drew ?_) | (with_reducible refine Gr.set ?_ (by dsimp only; omega) _) | (with_reducible refine Gr.trans ?_ (by with_reducible assumption)))); first | done | fail))) ⟨w4.heap.size + 1, 0, none⟩ 1 1 [.int .i64 (twF W s), .int .i64 (thF W H s), .slice (some ⟨g4, 0, none⟩) (tnF W H s) c4] rfl rfl (three_news _ _ _ _ _ (by simp only [World.size_alloc])) (by simp [Value.oneCell']) (by unfold maxLen; omega) (by omega) (by have := hg24.size; simp only [World.size_alloc]; omega) ?_; intro v' w5 hown5 hgrow5 hnil5; obtain ⟨g5, c5, htl5, hgr5⟩ := HTL.out.step tl1 (hg24.trans (by (repeat (first | (with_reducible exact Gr.refl _) | (with_reducible assumption) | (with_reducible refine Gr.alloc ?_ _) | (with_reducible refine Gr.drewN ?_ _) | (with_reducible refine Gr.drew ?_) | (with_reducible refine Gr.set ?_ (by dsimp only; omega) _) | (with_reducible refine Gr.trans ?_ (by with_reducible assumption)))); first | done | fail)) (hs4.gr (by (repeat (first | (with_reducible exact Gr.refl _) | (with_reducible assumption) | (with_reducible refine Gr.alloc ?_ _) | (with_reducible refine Gr.drewN ?_ _) | (with_reducible refine Gr.drew ?_) | (with_reducible refine Gr.set ?_ (by dsimp only; omega) _) | (with_reducible refine Gr.trans ?_ (by with_reducible assumption)))); first | done | fail)) t2 q1 q2 hown5 hgrow5 (w0 := U) (hgr.trans (hg24.trans (by (repeat (first | (with_reducible exact Gr.refl _) | (with_reducible assumption) | (with_reducible refine Gr.alloc ?_ _) | (with_reducible refine Gr.drewN ?_ _) | (with_reducible refine Gr.drew ?_) | (with_reducible refine Gr.set ?_ (by dsimp only; omega) _) | (with_reducible refine Gr.trans ?_ (by with_reducible assumption)))); first | done | fail))) (by omega); clear hown5 hgrow5 hnil5))
        go_roundw
        case rel => exact ⟨s + 1, p + u, ts ++ [L], g5, c5, by omega, by go_num, by go_num, HR2.out, htl5, hgr5⟩
        case measure => simp [intOf]; omega
      · obtain ⟨k, e1⟩ : ∃ k, getL (tnF W H s) (B - p) (fun i => b (p + i)) = (k, [], 0) := by
          rcases getL_kind (tnF W H s) (B - p) (fun i => b (p + i)) with e | e | e
          · exact absurd e hk
          · exact ⟨2, e⟩
          · exact ⟨3, e⟩
        have hk0 : k ≠ 0 := by rw [e1] at hk; exact hk
        have hrd2 := rd_fail HRD.out hk
        rw [e1] at hrd2
        have hrd3 : rdS W H B b C = (k, [], 0) := by
          have := rd_stick (s := s + 1) (W := W) (H := H) (B := B) (b := b) (by rw [hrd2]; exact hk0) (C - (s + 1))
          rw [show s + 1 + (C - (s + 1)) = C by omega, hrd2] at this
          exact this
        have hgm : getM B b = (k, []) := by rw [HGM.out, hrd3, if_pos hk0]
        have HGE := hide (fun (v : World) (a' : Option Addr) (c' : Nat) (hv : Gr w v) (ha : p < B → a' = some ⟨bb, oo + p, none⟩) (hc' : B - p ≤ c') => rget_err k a' (B - p) c' (twF W s) (thF W H s) (tnF W H s) (fun i => b (p + i)) v ((HSL.out p a' ha).gr hv) hc' (by omega) ⟨z1, z2⟩ ⟨z3, z4⟩ HT1.out hk0 e1)
        have HGMM := hide hgm
        have hk0' : (k != 0) = true := by simp [hk0]
        have HK0 := hide hk0
        obtain ⟨e1', e2', e3', j1', j2', j3'⟩ := row_cells (row_gr R1 hgr)
        clear hk e1 hrd2 hrd3 hgm hk0
        by_cases hpc : cap = p
        all_goals
          go_wp2_with (first | (go_at_call 12; refine (rcount_any _ _ _).mono ?_; rintro e w2 ⟨rfl, hd2⟩; rw [← HCI.out]; have hg2 := Dr.gr hd2; clear hd2) | (go_at_call 38; refine (HSY.out _).mono ?_; rintro e w3 ⟨rfl, hd3⟩; have hg3 := Dr.gr hd3; clear hd3) | (go_at_call 44; refine (HGE.out _ _ _ (hUw.trans (hgr.trans (hg2.trans hg3))) (fun hp => by first | rfl | omega) (by omega)).mono ?_; rintro e w4 ⟨rfl, hg4⟩; have hg24 := (hg2.trans (hg3.trans hg4)); obtain ⟨e1, e2, e3, j1, j2, j3⟩ := row_cells (row_gr R1 (hgr.trans hg24)); have hz4 : w.heap.size < w4.heap.size := (row_gr R1 (hgr.trans hg24)).lt))
          have hG4 : Gr w w4 := hUw.trans (hgr.trans hg24)
          obtain ⟨m0, m1, m2, -, -, -⟩ := row_cells ((row_set3 (u0 := .int .i64 0) (u1 := .int .i64 0) (u2 := .slice none 0 0) (row_gr R1 (hgr.trans hg24))).alloc (.cells #[.int .i64 0, .int .i64 0, .slice none 0 0] 31))
          have hgz := (gr_set3 (x := .int .i64 0) (y := .int .i64 0) (z := .slice none 0 0) hG4 (Nat.le_refl _)).alloc (.cells #[.int .i64 0, .int .i64 0, .slice none 0 0] 31)
          generalize ((((w4.setCell ⟨w.heap.size, 0, none⟩ (.int .i64 0)).setCell ⟨w.heap.size, 1, none⟩ (.int .i64 0)).setCell ⟨w.heap.size, 2, none⟩ (.slice none 0 0)).alloc (.cells #[.int .i64 0, .int .i64 0, .slice none 0 0] 31)) = u9 at *
          refine bodyPost_ret (v := .tuple #[.agg #[.int .i64 0, .int .i64 0, .slice none 0 0], .int .i64 k]) (by simp [results, Tryd.results24, go_sem, m0, m1, m2]) rfl ?_
          refine ⟨⟨_, rfl, .inr ?_⟩, hgz⟩
          rw [HGMM.out]
          exact ⟨HK0.out, rfl⟩
    · have hsC : s = C := by omega
      subst hsC
      have hgm : getM B b = if p ≠ B then (3, []) else (0, ts) := by rw [HGM.out, hrd]; simp
      obtain ⟨tb, tcap, etv, tq1, tq2, tq3, hts⟩ := htl.tsl (by omega)
      rw [etv]
      have HTS := hide hts
      clear htl hrd hts etv HGM
      by_cases hp : p = B
      · rw [if_neg (by omega)] at hgm
        have HK1 : Hid (ts.length = cntS W H) := hide (by rw [tl1, HCC.out])
        have HL := hide (fun (u : World) (hu : Gr wr u) => joined_any W H (some ⟨tb, 0, none⟩) ts.length tcap N (tiF W H ts g c) ts u (HTS.out.gr hu) hm HK1.out HNN.out (fun s _ => ⟨rfl, rfl, rfl, fun _ _ => rfl⟩))
        have HJ := hide (HJJ.out ts hgm N HNN.out)
        have HGMM := hide hgm
        have hp' : ((p : Int) != (B : Int)) = false := by simp [hp]
        have HTL1 := hide tl1
        clear hgm hp tl1 tq2
        generalize hTL : ts.length = TL at *
        go_wp2_with (first | (go_at_call 12; refine (rcount_any _ _ _).mono ?_; rintro e w2 ⟨rfl, hd2⟩; rw [← HCI.out]; have hg2 := Dr.gr hd2; clear hd2) | (go_at_call 45; refine (HL.out _ hg2).mono ?_; rintro e w3 ⟨⟨g3, rfl, hrow, hgb⟩, hg3⟩; obtain ⟨e1, e2, e3, j1, j2, j3⟩ := row_cells (row_gr R1 (hgr.trans (hg2.trans hg3)))))
        have hG3 : Gr w w3 := hUw.trans (hgr.trans (hg2.trans hg3))
        have hgw := gr_set3 (x := .int .i64 W) (y := .int .i64 H) (z := .slice (some ⟨g3, 0, none⟩) N N) hG3 (Nat.le_refl _)
        have hg3w : g3 ≠ w.heap.size := by have := hgr.size; have := hg2.size; omega
        have hrw := ((hrow.setO (p := ⟨w.heap.size, 0, none⟩) (v := .int .i64 W) hg3w).setO (p := ⟨w.heap.size, 1, none⟩) (v := .int .i64 H) hg3w).setO (p := ⟨w.heap.size, 2, none⟩) (v := .slice (some ⟨g3, 0, none⟩) N N) hg3w
        refine bodyPost_ret (v := .tuple #[.agg #[.int .i64 W, .int .i64 H, .slice (some ⟨g3, 0, none⟩) N N], .int .i64 0]) (by simp [results, Tryd.results24, go_sem, e1, e2, e3]) rfl ?_
        refine ⟨⟨_, rfl, .inl ?_⟩, hgw⟩
        rw [HGMM.out, HWB.out, HHB.out]
        exact ⟨rfl, g3, N, rfl, HNN.out, hN6, hrw.sl (fun i hi => by have := HJ.out i hi; omega)⟩
      · rw [if_pos hp] at hgm
        have HGMM := hide hgm
        have hp' : ((p : Int) != (B : Int)) = true := by simp; omega
        clear hgm hp
        go_wp2_with (go_at_call 12; refine (rcount_any _ _ _).mono ?_; rintro e w2 ⟨rfl, hd2⟩; rw [← HCI.out]; have hg2 := Dr.gr hd2; clear hd2; obtain ⟨e1, e2, e3, j1, j2, j3⟩ := row_cells (row_gr R1 (hgr.trans hg2)))
        have hG3 : Gr w w2 := hUw.trans (hgr.trans hg2)
        refine bodyPost_ret (v := .tuple #[.agg #[.int .i64 0, .int .i64 0, .slice none 0 0], .int .i64 3]) (by simp [results, Tryd.results24, go_sem, e1, e2, e3]) rfl ?_
        refine ⟨⟨_, rfl, .inr ?_⟩, gr_set3 hG3 (Nat.le_refl _)⟩
        rw [HGMM.out]
        exact ⟨by decide, rfl⟩

theorem rgetM_any (a : Option Addr) (B cap : Nat) (b : Nat → Int) (w : World) (h : Sl w a B b) (hc : B ≤ cap) (hcm : cap ≤ maxLen) (hB7 : B ≤ 1000000) :
    Calls Tryd.prog 24 #[.slice a B cap] w fun e w' => (∃ v, e = .returned v ∧ GetsM w' B b v) ∧ Gr w w' := by
  by_cases h4 : B < 4
  · exact rgetM_short a B cap b w h4
  cases hm : mayB (wOf b) (hOf b)
  · exact rgetM_bad a B cap b w h hB7 (by omega) hm
  · exact rgetM_yes a B cap b w h hc hcm hB7 (by omega) hm

/-- the map that is read: its sides, how many costs, which -/
def mW (B : Nat) (b : Nat → Int) : Int := if (getM B b).1 = 0 then wOf b else 0
def mH (B : Nat) (b : Nat → Int) : Int := if (getM B b).1 = 0 then hOf b else 0
def mN (B : Nat) (b : Nat → Int) : Nat := if (getM B b).1 = 0 then (wOf b * hOf b).toNat else 0
def mF (B : Nat) (b : Nat → Int) : Nat → Int := joinF (wOf b) (getM B b).2
theorem ansM_of {w : World} {B : Nat} {b : Nat → Int} {v : Value} (h : GetsM w B b v) : ∃ ta tc, v = .tuple #[.agg #[.int .i64 (mW B b), .int .i64 (mH B b), .slice ta (mN B b) tc], .int .i64 (getM B b).1] ∧ Sl w ta (mN B b) (mF B b) := by
  unfold mW mH mN mF
  rcases h with ⟨h0, g, N, rfl, hN, -, hs⟩ | ⟨h0, rfl⟩
  · rw [if_pos h0, if_pos h0, if_pos h0, h0]
    have : (wOf b * hOf b).toNat = N := by omega
    rw [this]
    exact ⟨_, N, rfl, hs⟩
  · rw [if_neg h0, if_neg h0, if_neg h0]
    exact ⟨none, 0, rfl, ⟨fun _ hi => absurd hi (Nat.not_lt_zero _), .inl rfl⟩⟩
theorem keepR {w u : World} {bb o g q : Nat} {v x : Value} (h : u.cell? ⟨bb, o, none⟩ = some v ∧ Gr w u) (h1 : bb ≠ g) (hg : w.heap.size ≤ g) : (u.setCell ⟨g, q, none⟩ x).cell? ⟨bb, o, none⟩ = some v ∧ Gr w (u.setCell ⟨g, q, none⟩ x) := by
  refine ⟨?_, h.2.set hg _⟩
  rw [World.cell?_setCell_far _ _ _ _ (by exact fun e => h1 e.symm)]
  exact h.1

set_option maxHeartbeats 8000000 in
theorem atlasReads_any (a : Option Addr) (n cap : Nat) (f : Nat → Int) (x y : Int) (ca : Option Addr) (cn ccap : Nat) (cf : Nat → Int) (at_ : Int) (raw : Bool) (ga : Nat → Addr) (w : World) (h : Sl w a n f) (hn : n ≤ maxLen) (ha : a = none → n = 0 ∧ cap = 0) (hcs : Sl w ca cn cf) (hcn : cn ≤ maxLen) (hw : Glob w ga) :
    Calls Tryd.prog 4 #[.slice a n cap, .int .i64 x, .int .i64 y, .slice ca cn ccap, .int .i64 at_, .bool raw] w fun e w' => e = .returned (.bool true) ∧ Gr w w' := by
  obtain ⟨i0, hi, hz0, hz1, hz2⟩ := info_parts info_u8
  have HTD := hide (fun (u : World) (hu : Gr w u) => told4_any ga u (hw.gr hu))
  have HW := hide (fun (u : World) (hu : Gr w u) => hw.gr hu)
  by_cases hbig : 1500 < n
  · have hb2 : (1500 : Int) < (n : Int) := by omega
    clear hw
    go_enter Tryd.func4, Tryd.ntmps4
    go_wp2_with (go_at_call 9; refine (HTD.out _ (Gr.refl w)).mono ?_; rintro e w3 ⟨rfl, hg3⟩)
    go_ret
    exact ⟨rfl, hg3⟩
  have hb2 : ¬ (1500 : Int) < (n : Int) := by omega
  have hn15 : n ≤ 1500 := by omega
  clear hw hbig
  cases a with
  | some ad =>
    obtain ⟨ad', e0, hcA⟩ : ∃ ad' : Addr, some ad = some ad' ∧ ∀ w', Gr w w' → ∀ j u, (cel .u8 n f)[j]? = some u → w'.cell? (ad'.add j) = some u := by
      rcases h.has with h0 | ⟨b, o, e, hB, hc⟩
      · exact ⟨ad, rfl, fun w' g j u hj => by subst h0; simp [cel] at hj⟩
      · exact ⟨⟨b, o, none⟩, e, fun w' g => cel_at hc hB g⟩
    cases e0
    have HC := hide hcA
    clear hcA
    have HSL := hide h
    have HY := hide h.byte
    clear h hn ha
    cases raw
    · go_enter Tryd.func4, Tryd.ntmps4
      go_wp2_with (at_builtin; refine wpList_append_own _ rfl _ _ 22 rfl w.heap.size 5 i0 (.int .u8 0) 1 1 Tryd.underlying22 hi hz0 hz1 hz2 rfl (by decide) (.slice (some ⟨w.heap.size, 0, none⟩) 0 0) 0 [] rfl (World.ownsRow_made w #[] 0 (Nat.le_refl _) (Nat.zero_le _) rfl) ad n cap (cel .u8 n f) rfl (by simp [cel_len]) (HC.out _ ((Gr.refl w).alloc _)) (cel_one _ _ _) (by unfold maxLen; omega) (by omega) (by simp only [World.size_alloc]; omega) ?_; intro v' w1 hown hgrow hnil; have hg1 := Gr.grown (a := w) ((Gr.refl w).alloc _) hgrow (fun k hk => Nat.le_of_eq (Option.some.inj hk)); obtain ⟨g, c1, rfl, ho1, -⟩ := own_some hown hnil (by simp); clear hown hgrow hnil)
      clear ho1 HC
      refine (made_any x y ca cn ccap cf _ (hcs.gr hg1) hcn).mono ?_
      rintro e w2 ⟨⟨g2, c2, N, rfl, hN, hown⟩, hg2⟩
      have hm := madeM_may hcs.byte hN
      have xb := within_bd x 1 40 (by omega)
      have yb := within_bd y 1 40 (by omega)
      generalize withinF x 1 40 = W at *
      generalize withinF y 1 40 = H at *
      generalize madeF cn cf = F0 at *
      have hFb := hown.byte
      have hlen := made_len hm hFb
      have hsm := made_small hm hFb xb.2 yb.2
      have hpm := rputM_any W H (some ⟨g2, 0, none⟩) N c2 F0 w2 hown.sl.2.2.2.2 hm
      have HPM := hide hpm
      have hgw2 := hg1.trans hg2
      clear hpm hown hm xb yb hN hFb hg2 hcn hcs
      go_wp2_with fail
      refine HPM.out.mono ?_
      rintro e w3 ⟨⟨g, c1, rfl, ho3⟩, hg3⟩
      have hgr0 := hgw2.trans hg3
      have ho0 := ho3.mono (base' := w.heap.size) hgw2.size
      obtain ⟨hl6, -, -⟩ := hlen
      clear HPM ho3 hg3 hgw2 hg1
      generalize at0 (putM W H F0) = F1 at *
      generalize hLL : (putM W H F0).length = n1 at *
      have hn30 : n1 ≤ 3000 := hsm
      have wN : IntKind.i64.wrap ((n1 : Int) - 1) = (n1 : Int) - 1 := wrapI (by omega)
      have hgb := ho0.sl.2.2.1
      clear hLL hsm
      go_wp2_with fail
      go_loopw [14] (fun i u => ∃ (k : Nat) (F : Nat → Int), k ≤ 3 ∧ i = .int .i64 k ∧ OwnB u w.heap.size g n1 c1 F ∧ Gr w u) (fun i _ => 3 - (intOf i).toNat)
      case atStart => exact ⟨0, F1, Nat.zero_le _, rfl, ho0, hgr0⟩
      case round =>
        clear ho0 hgr0
        obtain ⟨k, F, hk3, rfl, hO, hgr⟩ := hrel
        have HO := hide hO
        clear hO
        by_cases hlt : k < n ∧ k < 3
        · obtain ⟨l1, l2⟩ := hlt
          have l1' : (k : Int) < (n : Int) := by omega
          have l2' : (k : Int) < 3 := by omega
          obtain ⟨bb, oo, eb, hbb, hcb⟩ := HSL.out.at (by omega)
          cases eb
          have hck := cell_gr (hcb k l1) hgr
          have hyk := HY.out k l1
          have hbg : bb ≠ g := by omega
          have kn0 : (0 : Int) ≤ (k : Int) := by omega
          clear hcb
          go_wp2_with fail
          go_region_held3 (fun u => u.cell? ⟨bb, oo + k, none⟩ = some (.int .u8 (f k)) ∧ Gr w u) (first | exact ⟨hck, hgr.drew⟩ | (have hS := ‹_ ∧ Gr w _›; first | exact ⟨cell_gr hS.1 (by (repeat (first | (with_reducible exact Gr.refl _) | (with_reducible assumption) | (with_reducible refine Gr.alloc ?_ _) | (with_reducible refine Gr.drewN ?_ _) | (with_reducible refine Gr.drew ?_) | (with_reducible refine Gr.set ?_ (by dsimp only; omega) _) | (with_reducible refine Gr.trans ?_ (by with_reducible assumption)))); first | done | fail), hS.2.trans (by (repeat (first | (with_reducible exact Gr.refl _) | (with_reducible assumption) | (with_reducible refine Gr.alloc ?_ _) | (with_reducible refine Gr.drewN ?_ _) | (with_reducible refine Gr.drew ?_) | (with_reducible refine Gr.set ?_ (by dsimp only; omega) _) | (with_reducible refine Gr.trans ?_ (by with_reducible assumption)))); first | done | fail)⟩ | exact keepR hS hbg hgb)) ((go_at_call 11; refine (within_st _ 0 ((n1 : Int) - 1) _ (by omega) (by omega) (by omega)).mono ?_; rintro e w5 ⟨rfl, hw5⟩; subst hw5; have qb := within_bd (IntKind.i64.wrap (at_ + (k : Int))) 0 ((n1 : Int) - 1) (by omega); obtain ⟨q, hq⟩ : ∃ q : Nat, withinF (IntKind.i64.wrap (at_ + (k : Int))) 0 ((n1 : Int) - 1) = q := ⟨(withinF (IntKind.i64.wrap (at_ + (k : Int))) 0 ((n1 : Int) - 1)).toNat, by omega⟩; rw [hq]; rw [hq] at qb; have qn : q < n1 := (by omega); have qn' : (q : Int) < (n1 : Int) := (by omega); have cz := HO.out.cellAt qn; have fz := HO.out.own.frozenAt q; clear hq))
          have hO2 := (HO.out.set q hyk).gr (Gr.refl _).drew
          have hG2 : Gr w ((wr.setCell ⟨g, q, none⟩ (.int .u8 (f k))).drew) := (hgr.set (p := ⟨g, q, none⟩) hgb _).drew
          have HO2 := hide hO2
          clear hO2 cz fz
          generalize ((wr.setCell ⟨g, q, none⟩ (.int .u8 (f k))).drew) = u9 at *
          go_wp2
          go_roundw
          case rel => exact ⟨k + 1, upd F q (f k), by omega, by go_num, HO2.out, hG2⟩
          case measure => simp [intOf]; omega
        · have hx : (n : Int) ≤ (k : Int) ∨ ((k : Int) < (n : Int) ∧ (3 : Int) ≤ (k : Int)) := by omega
          rcases hx with hx1 | ⟨hx1, hx2⟩
          all_goals
            go_wp2_with fail
            generalize hUU : wr = u1 at *
            clear hUU
            obtain ⟨hq1, hq2, hqb, hqs, hqsl⟩ := HO.out.sl
            have hq4 : 4 ≤ n1 → (u1.cell? ⟨g, 0, none⟩ = some (.int .u8 (F 0)) ∧ 0 ≤ F 0 ∧ F 0 ≤ 255) ∧ (u1.cell? ⟨g, 1, none⟩ = some (.int .u8 (F 1)) ∧ 0 ≤ F 1 ∧ F 1 ≤ 255) ∧ (u1.cell? ⟨g, 2, none⟩ = some (.int .u8 (F 2)) ∧ 0 ≤ F 2 ∧ F 2 ≤ 255) ∧ (u1.cell? ⟨g, 3, none⟩ = some (.int .u8 (F 3)) ∧ 0 ≤ F 3 ∧ F 3 ≤ 255) := fun h => ⟨⟨HO.out.cellAt (by omega), HO.out.byte _ (by omega)⟩, ⟨HO.out.cellAt (by omega), HO.out.byte _ (by omega)⟩, ⟨HO.out.cellAt (by omega), HO.out.byte _ (by omega)⟩, ⟨HO.out.cellAt (by omega), HO.out.byte _ (by omega)⟩⟩
            clear hqsl hqs hqb
            generalize hF0 : F 0 = b0 at *
            generalize hF1 : F 1 = b1 at *
            generalize hF2 : F 2 = b2 at *
            generalize hF3 : F 3 = b3 at *
            by_cases h4 : n1 < 4
            · exact absurd h4 (by omega)
            · have i4 : (4 : Int) ≤ (n1 : Int) := by omega
              obtain ⟨⟨c0, y0⟩, ⟨c1', y1⟩, ⟨c2, y2⟩, ⟨c3, y3⟩⟩ := hq4 (by omega)
              obtain ⟨A, hA⟩ : ∃ A, b0 + 256 * b1 = A := ⟨_, rfl⟩
              obtain ⟨D, hD⟩ : ∃ D, b2 + 256 * b3 = D := ⟨_, rfl⟩
              have ab : 0 ≤ A ∧ A ≤ 65535 := by omega
              have db : 0 ≤ D ∧ D ≤ 65535 := by omega
              have pb := mul_bd (w := A) (h := D) (W := 65535) (H := 65535) (by omega) (by omega) (by omega) (by omega)
              have wP : IntKind.i64.wrap (A * D) = A * D := wrapI (by omega)
              have j0 : (0 : Int) < (n1 : Int) := by omega
              have j1 : (1 : Int) < (n1 : Int) := by omega
              have j2 : (2 : Int) < (n1 : Int) := by omega
              have j3 : (3 : Int) < (n1 : Int) := by omega
              by_cases hbig : 60000 < A * D
              · go_quiet (fail)
                clear c0 c1' c2 c3 y0 y1 y2 y3
                have hgq : Gr w (u1.drewN nq) := hgr.drewN nq
                go_wp2_with fail
                refine (HTD.out _ hgq).mono ?_
                rintro e w3 ⟨rfl, hg3⟩
                go_wp2_with fail
                go_ret
                exact ⟨rfl, hgq.trans hg3⟩
              · go_quiet (fail)
                clear c0 c1' c2 c3 y0 y1 y2 y3
                clear hF0 hF1 hF2 hF3 hA hD
                have hgq : Gr w (u1.drewN nq) := hgr.drewN nq
                have HO1 := hide (HO.out.gr ((Gr.refl u1).drewN nq))
                generalize u1.drewN nq = u2 at *
                go_wp2_with (at_builtin; refine wpList_append_own _ rfl _ _ 22 rfl u2.heap.size 5 i0 (.int .u8 0) 1 1 Tryd.underlying22 hi hz0 hz1 hz2 rfl (by decide) (.slice (some ⟨u2.heap.size, 0, none⟩) 0 0) 0 [] rfl (World.ownsRow_made u2 #[] 0 (Nat.le_refl _) (Nat.zero_le _) rfl) ⟨g, 0, none⟩ n1 c1 (cel .u8 n1 F) rfl (by simp [cel_len]) (own_news HO1.out ((Gr.refl _).alloc _)) (cel_one _ _ _) (by unfold maxLen; omega) (by omega) (by simp only [World.size_alloc]; omega) ?_; intro v' w3 hown3 hgrow3 hnil3; have hg3 := Gr.grown (a := u2) ((Gr.refl u2).alloc _) hgrow3 (fun k hk => Nat.le_of_eq (Option.some.inj hk)); obtain ⟨g3, c3, rfl, ho3, -⟩ := own_some hown3 hnil3 (by simp); clear hown3 hgrow3 hnil3)
                have sl3 : Sl w3 (some ⟨g3, 0, none⟩) n1 F := (OwnB.mk ho3 HO1.out.byte).sl.2.2.2.2
                have slx := (HO1.out.gr hg3).sl.2.2.2.2
                have hgr3 := hgq.trans hg3
                clear hg3 ho3 hgq HO1 HO hgr
                refine (aget_any _ _ _ F ga _ slx (HW.out _ hgr3) hq1 hq2 (by omega)).mono ?_
                rintro e w4 ⟨⟨v, rfl, hv⟩, hg4⟩
                obtain ⟨ta, tc, rfl, st⟩ := ansM_of hv
                clear hv
                replace slx := slx.gr hg4
                replace sl3 := sl3.gr hg4
                have hgr4 := hgr3.trans hg4
                obtain ⟨x1, x2, x3⟩ := tri_cells w4 (mW n1 F) (mH n1 F) (.slice ta (mN n1 F) tc) 24
                have ga4 := (Gr.refl w4).alloc (.cells #[.int .i64 (mW n1 F), .int .i64 (mH n1 F), .slice ta (mN n1 F) tc] 24)
                clear hg4 hgr3
                go_wp2_with fail
                replace slx := slx.gr ga4
                replace sl3 := sl3.gr ga4
                replace st := st.gr ga4
                replace hgr4 := hgr4.trans ga4
                clear ga4
                generalize (w4.alloc (.cells #[.int .i64 (mW n1 F), .int .i64 (mH n1 F), .slice ta (mN n1 F) tc] 24)) = u4 at *
                generalize w4.heap.size = B16 at *
                refine (rgetM_any _ _ _ F _ slx hq1 hq2 (by omega)).mono ?_
                rintro e w5 ⟨⟨v, rfl, hv⟩, hg5⟩
                obtain ⟨tb, td, rfl, su⟩ := ansM_of hv
                clear hv
                replace slx := slx.gr hg5
                replace sl3 := sl3.gr hg5
                replace st := st.gr hg5
                replace x1 := cell_gr x1 hg5
                replace x2 := cell_gr x2 hg5
                replace x3 := cell_gr x3 hg5
                have hgr5 := hgr4.trans hg5
                obtain ⟨y1, y2, y3⟩ := tri_cells w5 (mW n1 F) (mH n1 F) (.slice tb (mN n1 F) td) 24
                have ga5 := (Gr.refl w5).alloc (.cells #[.int .i64 (mW n1 F), .int .i64 (mH n1 F), .slice tb (mN n1 F) td] 24)
                clear hg5 hgr4
                go_wp2_with fail
                replace slx := slx.gr ga5
                replace sl3 := sl3.gr ga5
                replace st := st.gr ga5
                replace su := su.gr ga5
                replace x1 := cell_gr x1 ga5
                replace x2 := cell_gr x2 ga5
                replace x3 := cell_gr x3 ga5
                replace hgr5 := hgr5.trans ga5
                clear ga5
                generalize (w5.alloc (.cells #[.int .i64 (mW n1 F), .int .i64 (mH n1 F), .slice tb (mN n1 F) td] 24)) = u5 at *
                generalize w5.heap.size = B18 at *
                have HSM := hide (sameTB_of (W := mW n1 F) (H := mH n1 F) (n := mN n1 F) (m := mN n1 F) (f := mF n1 F) (g := mF n1 F) rfl (fun _ _ => rfl))
                have HSB := hide (sameB_refl n1 F)
                generalize mW n1 F = tW at *
                generalize mH n1 F = tH at *
                generalize mN n1 F = tN at *
                generalize mF n1 F = tF at *
                generalize (getM n1 F).1 = tk at *
                refine (HTD.out _ hgr5).mono ?_
                rintro e w6 ⟨rfl, hg6⟩
                replace slx := slx.gr hg6
                replace sl3 := sl3.gr hg6
                replace st := st.gr hg6
                replace su := su.gr hg6
                replace x1 := cell_gr x1 hg6
                replace x2 := cell_gr x2 hg6
                replace x3 := cell_gr x3 hg6
                replace y1 := cell_gr y1 hg6
                replace y2 := cell_gr y2 hg6
                replace y3 := cell_gr y3 hg6
                have hgr6 := hgr5.trans hg6
                clear hg6 hgr5
                go_wp2_with fail
                refine (rsameM_any _ _ _ _ _ _ _ _ _ _ tF tF _ st su).mono ?_
                rintro e w7 ⟨rfl, hg7⟩
                rw [HSM.out]
                go_wp2_with fail
                refine (rbytes_any _ _ _ _ _ _ F F _ (slx.gr hg7) (sl3.gr hg7)).mono ?_
                rintro e w8 ⟨rfl, hw8⟩
                subst hw8
                rw [HSB.out]
                go_wp2_with fail
                go_ret
                exact ⟨ret_bool (by simp), hgr6.trans hg7⟩
    · go_enter Tryd.func4, Tryd.ntmps4
      go_wp2_with (at_builtin; refine wpList_append_own _ rfl _ _ 22 rfl w.heap.size 5 i0 (.int .u8 0) 1 1 Tryd.underlying22 hi hz0 hz1 hz2 rfl (by decide) (.slice (some ⟨w.heap.size, 0, none⟩) 0 0) 0 [] rfl (World.ownsRow_made w #[] 0 (Nat.le_refl _) (Nat.zero_le _) rfl) ad n cap (cel .u8 n f) rfl (by simp [cel_len]) (HC.out _ ((Gr.refl w).alloc _)) (cel_one _ _ _) (by unfold maxLen; omega) (by omega) (by simp only [World.size_alloc]; omega) ?_; intro v' w1 hown hgrow hnil; have hg1 := Gr.grown (a := w) ((Gr.refl w).alloc _) hgrow (fun k hk => Nat.le_of_eq (Option.some.inj hk)); obtain ⟨g, c1, rfl, ho1, -⟩ := own_some hown hnil (by simp); clear hown hgrow hnil)
      have HO := hide (OwnB.mk ho1 HY.out)
      have hgr := hg1
      have hn30 : n ≤ 3000 := by omega
      clear ho1 hg1 HC
      generalize hFF : f = F at *
      generalize hNN : n = n1 at *
      generalize hUU : w1 = u1 at *
      clear hFF hUU
      obtain ⟨hq1, hq2, hqb, hqs, hqsl⟩ := HO.out.sl
      have hq4 : 4 ≤ n1 → (u1.cell? ⟨g, 0, none⟩ = some (.int .u8 (F 0)) ∧ 0 ≤ F 0 ∧ F 0 ≤ 255) ∧ (u1.cell? ⟨g, 1, none⟩ = some (.int .u8 (F 1)) ∧ 0 ≤ F 1 ∧ F 1 ≤ 255) ∧ (u1.cell? ⟨g, 2, none⟩ = some (.int .u8 (F 2)) ∧ 0 ≤ F 2 ∧ F 2 ≤ 255) ∧ (u1.cell? ⟨g, 3, none⟩ = some (.int .u8 (F 3)) ∧ 0 ≤ F 3 ∧ F 3 ≤ 255) := fun h => ⟨⟨HO.out.cellAt (by omega), HO.out.byte _ (by omega)⟩, ⟨HO.out.cellAt (by omega), HO.out.byte _ (by omega)⟩, ⟨HO.out.cellAt (by omega), HO.out.byte _ (by omega)⟩, ⟨HO.out.cellAt (by omega), HO.out.byte _ (by omega)⟩⟩
      clear hqsl hqs hqb
      generalize hF0 : F 0 = b0 at *
      generalize hF1 : F 1 = b1 at *
      generalize hF2 : F 2 = b2 at *
      generalize hF3 : F 3 = b3 at *
      by_cases h4 : n1 < 4
      · have i4 : ¬ (4 : Int) ≤ (n1 : Int) := by omega
        have i5 : (n1 : Int) < 4 := by omega
        clear hq4
        go_quiet (fail)
        clear hF0 hF1 hF2 hF3
        have hgq : Gr w (u1.drewN nq) := hgr.drewN nq
        have HO1 := hide (HO.out.gr ((Gr.refl u1).drewN nq))
        generalize u1.drewN nq = u2 at *
        go_wp2_with (at_builtin; refine wpList_append_own _ rfl _ _ 22 rfl u2.heap.size 5 i0 (.int .u8 0) 1 1 Tryd.underlying22 hi hz0 hz1 hz2 rfl (by decide) (.slice (some ⟨u2.heap.size, 0, none⟩) 0 0) 0 [] rfl (World.ownsRow_made u2 #[] 0 (Nat.le_refl _) (Nat.zero_le _) rfl) ⟨g, 0, none⟩ n1 c1 (cel .u8 n1 F) rfl (by simp [cel_len]) (own_news HO1.out ((Gr.refl _).alloc _)) (cel_one _ _ _) (by unfold maxLen; omega) (by omega) (by simp only [World.size_alloc]; omega) ?_; intro v' w3 hown3 hgrow3 hnil3; have hg3 := Gr.grown (a := u2) ((Gr.refl u2).alloc _) hgrow3 (fun k hk => Nat.le_of_eq (Option.some.inj hk)); obtain ⟨g3, c3, rfl, ho3, -⟩ := own_some hown3 hnil3 (by simp); clear hown3 hgrow3 hnil3)
        have sl3 : Sl w3 (some ⟨g3, 0, none⟩) n1 F := (OwnB.mk ho3 HO1.out.byte).sl.2.2.2.2
        have slx := (HO1.out.gr hg3).sl.2.2.2.2
        have hgr3 := hgq.trans hg3
        clear hg3 ho3 hgq HO1 HO hgr
        refine (aget_any _ _ _ F ga _ slx (HW.out _ hgr3) hq1 hq2 (by omega)).mono ?_
        rintro e w4 ⟨⟨v, rfl, hv⟩, hg4⟩
        obtain ⟨ta, tc, rfl, st⟩ := ansM_of hv
        clear hv
        replace slx := slx.gr hg4
        replace sl3 := sl3.gr hg4
        have hgr4 := hgr3.trans hg4
        obtain ⟨x1, x2, x3⟩ := tri_cells w4 (mW n1 F) (mH n1 F) (.slice ta (mN n1 F) tc) 24
        have ga4 := (Gr.refl w4).alloc (.cells #[.int .i64 (mW n1 F), .int .i64 (mH n1 F), .slice ta (mN n1 F) tc] 24)
        clear hg4 hgr3
        go_wp2_with fail
        replace slx := slx.gr ga4
        replace sl3 := sl3.gr ga4
        replace st := st.gr ga4
        replace hgr4 := hgr4.trans ga4
        clear ga4
        generalize (w4.alloc (.cells #[.int .i64 (mW n1 F), .int .i64 (mH n1 F), .slice ta (mN n1 F) tc] 24)) = u4 at *
        generalize w4.heap.size = B16 at *
        refine (rgetM_any _ _ _ F _ slx hq1 hq2 (by omega)).mono ?_
        rintro e w5 ⟨⟨v, rfl, hv⟩, hg5⟩
        obtain ⟨tb, td, rfl, su⟩ := ansM_of hv
        clear hv
        replace slx := slx.gr hg5
        replace sl3 := sl3.gr hg5
        replace st := st.gr hg5
        replace x1 := cell_gr x1 hg5
        replace x2 := cell_gr x2 hg5
        replace x3 := cell_gr x3 hg5
        have hgr5 := hgr4.trans hg5
        obtain ⟨y1, y2, y3⟩ := tri_cells w5 (mW n1 F) (mH n1 F) (.slice tb (mN n1 F) td) 24
        have ga5 := (Gr.refl w5).alloc (.cells #[.int .i64 (mW n1 F), .int .i64 (mH n1 F), .slice tb (mN n1 F) td] 24)
        clear hg5 hgr4
        go_wp2_with fail
        replace slx := slx.gr ga5
        replace sl3 := sl3.gr ga5
        replace st := st.gr ga5
        replace su := su.gr ga5
        replace x1 := cell_gr x1 ga5
        replace x2 := cell_gr x2 ga5
        replace x3 := cell_gr x3 ga5
        replace hgr5 := hgr5.trans ga5
        clear ga5
        generalize (w5.alloc (.cells #[.int .i64 (mW n1 F), .int .i64 (mH n1 F), .slice tb (mN n1 F) td] 24)) = u5 at *
        generalize w5.heap.size = B18 at *
        have HSM := hide (sameTB_of (W := mW n1 F) (H := mH n1 F) (n := mN n1 F) (m := mN n1 F) (f := mF n1 F) (g := mF n1 F) rfl (fun _ _ => rfl))
        have HSB := hide (sameB_refl n1 F)
        generalize mW n1 F = tW at *
        generalize mH n1 F = tH at *
        generalize mN n1 F = tN at *
        generalize mF n1 F = tF at *
        generalize (getM n1 F).1 = tk at *
        refine (HTD.out _ hgr5).mono ?_
        rintro e w6 ⟨rfl, hg6⟩
        replace slx := slx.gr hg6
        replace sl3 := sl3.gr hg6
        replace st := st.gr hg6
        replace su := su.gr hg6
        replace x1 := cell_gr x1 hg6
        replace x2 := cell_gr x2 hg6
        replace x3 := cell_gr x3 hg6
        replace y1 := cell_gr y1 hg6
        replace y2 := cell_gr y2 hg6
        replace y3 := cell_gr y3 hg6
        have hgr6 := hgr5.trans hg6
        clear hg6 hgr5
        go_wp2_with fail
        refine (rsameM_any _ _ _ _ _ _ _ _ _ _ tF tF _ st su).mono ?_
        rintro e w7 ⟨rfl, hg7⟩
        rw [HSM.out]
        go_wp2_with fail
        refine (rbytes_any _ _ _ _ _ _ F F _ (slx.gr hg7) (sl3.gr hg7)).mono ?_
        rintro e w8 ⟨rfl, hw8⟩
        subst hw8
        rw [HSB.out]
        go_wp2_with fail
        go_ret
        exact ⟨ret_bool (by simp), hgr6.trans hg7⟩
      · have i4 : (4 : Int) ≤ (n1 : Int) := by omega
        obtain ⟨⟨c0, y0⟩, ⟨c1', y1⟩, ⟨c2, y2⟩, ⟨c3, y3⟩⟩ := hq4 (by omega)
        obtain ⟨A, hA⟩ : ∃ A, b0 + 256 * b1 = A := ⟨_, rfl⟩
        obtain ⟨D, hD⟩ : ∃ D, b2 + 256 * b3 = D := ⟨_, rfl⟩
        have ab : 0 ≤ A ∧ A ≤ 65535 := by omega
        have db : 0 ≤ D ∧ D ≤ 65535 := by omega
        have pb := mul_bd (w := A) (h := D) (W := 65535) (H := 65535) (by omega) (by omega) (by omega) (by omega)
        have wP : IntKind.i64.wrap (A * D) = A * D := wrapI (by omega)
        have j0 : (0 : Int) < (n1 : Int) := by omega
        have j1 : (1 : Int) < (n1 : Int) := by omega
        have j2 : (2 : Int) < (n1 : Int) := by omega
        have j3 : (3 : Int) < (n1 : Int) := by omega
        by_cases hbig : 60000 < A * D
        · go_quiet (fail)
          clear c0 c1' c2 c3 y0 y1 y2 y3
          have hgq : Gr w (u1.drewN nq) := hgr.drewN nq
          go_wp2_with fail
          refine (HTD.out _ hgq).mono ?_
          rintro e w3 ⟨rfl, hg3⟩
          go_wp2_with fail
          go_ret
          exact ⟨rfl, hgq.trans hg3⟩
        · go_quiet (fail)
          clear c0 c1' c2 c3 y0 y1 y2 y3
          clear hF0 hF1 hF2 hF3 hA hD
          have hgq : Gr w (u1.drewN nq) := hgr.drewN nq
          have HO1 := hide (HO.out.gr ((Gr.refl u1).drewN nq))
          generalize u1.drewN nq = u2 at *
          go_wp2_with (at_builtin; refine wpList_append_own _ rfl _ _ 22 rfl u2.heap.size 5 i0 (.int .u8 0) 1 1 Tryd.underlying22 hi hz0 hz1 hz2 rfl (by decide) (.slice (some ⟨u2.heap.size, 0, none⟩) 0 0) 0 [] rfl (World.ownsRow_made u2 #[] 0 (Nat.le_refl _) (Nat.zero_le _) rfl) ⟨g, 0, none⟩ n1 c1 (cel .u8 n1 F) rfl (by simp [cel_len]) (own_news HO1.out ((Gr.refl _).alloc _)) (cel_one _ _ _) (by unfold maxLen; omega) (by omega) (by simp only [World.size_alloc]; omega) ?_; intro v' w3 hown3 hgrow3 hnil3; have hg3 := Gr.grown (a := u2) ((Gr.refl u2).alloc _) hgrow3 (fun k hk => Nat.le_of_eq (Option.some.inj hk)); obtain ⟨g3, c3, rfl, ho3, -⟩ := own_some hown3 hnil3 (by simp); clear hown3 hgrow3 hnil3)
          have sl3 : Sl w3 (some ⟨g3, 0, none⟩) n1 F := (OwnB.mk ho3 HO1.out.byte).sl.2.2.2.2
          have slx := (HO1.out.gr hg3).sl.2.2.2.2
          have hgr3 := hgq.trans hg3
          clear hg3 ho3 hgq HO1 HO hgr
          refine (aget_any _ _ _ F ga _ slx (HW.out _ hgr3) hq1 hq2 (by omega)).mono ?_
          rintro e w4 ⟨⟨v, rfl, hv⟩, hg4⟩
          obtain ⟨ta, tc, rfl, st⟩ := ansM_of hv
          clear hv
          replace slx := slx.gr hg4
          replace sl3 := sl3.gr hg4
          have hgr4 := hgr3.trans hg4
          obtain ⟨x1, x2, x3⟩ := tri_cells w4 (mW n1 F) (mH n1 F) (.slice ta (mN n1 F) tc) 24
          have ga4 := (Gr.refl w4).alloc (.cells #[.int .i64 (mW n1 F), .int .i64 (mH n1 F), .slice ta (mN n1 F) tc] 24)
          clear hg4 hgr3
          go_wp2_with fail
          replace slx := slx.gr ga4
          replace sl3 := sl3.gr ga4
          replace st := st.gr ga4
          replace hgr4 := hgr4.trans ga4
          clear ga4
          generalize (w4.alloc (.cells #[.int .i64 (mW n1 F), .int .i64 (mH n1 F), .slice ta (mN n1 F) tc] 24)) = u4 at *
          generalize w4.heap.size = B16 at *
          refine (rgetM_any _ _ _ F _ slx hq1 hq2 (by omega)).mono ?_
          rintro e w5 ⟨⟨v, rfl, hv⟩, hg5⟩
          obtain ⟨tb, td, rfl, su⟩ := ansM_of hv
          clear hv
          replace slx := slx.gr hg5
          replace sl3 := sl3.gr hg5
          replace st := st.gr hg5
          replace x1 := cell_gr x1 hg5
          replace x2 := cell_gr x2 hg5
          replace x3 := cell_gr x3 hg5
          have hgr5 := hgr4.trans hg5
          obtain ⟨y1, y2, y3⟩ := tri_cells w5 (mW n1 F) (mH n1 F) (.slice tb (mN n1 F) td) 24
          have ga5 := (Gr.refl w5).alloc (.cells #[.int .i64 (mW n1 F), .int .i64 (mH n1 F), .slice tb (mN n1 F) td] 24)
          clear hg5 hgr4
          go_wp2_with fail
          replace slx := slx.gr ga5
          replace sl3 := sl3.gr ga5
          replace st := st.gr ga5
          replace su := su.gr ga5
          replace x1 := cell_gr x1 ga5
          replace x2 := cell_gr x2 ga5
          replace x3 := cell_gr x3 ga5
          replace hgr5 := hgr5.trans ga5
          clear ga5
          generalize (w5.alloc (.cells #[.int .i64 (mW n1 F), .int .i64 (mH n1 F), .slice tb (mN n1 F) td] 24)) = u5 at *
          generalize w5.heap.size = B18 at *
          have HSM := hide (sameTB_of (W := mW n1 F) (H := mH n1 F) (n := mN n1 F) (m := mN n1 F) (f := mF n1 F) (g := mF n1 F) rfl (fun _ _ => rfl))
          have HSB := hide (sameB_refl n1 F)
          generalize mW n1 F = tW at *
          generalize mH n1 F = tH at *
          generalize mN n1 F = tN at *
          generalize mF n1 F = tF at *
          generalize (getM n1 F).1 = tk at *
          refine (HTD.out _ hgr5).mono ?_
          rintro e w6 ⟨rfl, hg6⟩
          replace slx := slx.gr hg6
          replace sl3 := sl3.gr hg6
          replace st := st.gr hg6
          replace su := su.gr hg6
          replace x1 := cell_gr x1 hg6
          replace x2 := cell_gr x2 hg6
          replace x3 := cell_gr x3 hg6
          replace y1 := cell_gr y1 hg6
          replace y2 := cell_gr y2 hg6
          replace y3 := cell_gr y3 hg6
          have hgr6 := hgr5.trans hg6
          clear hg6 hgr5
          go_wp2_with fail
          refine (rsameM_any _ _ _ _ _ _ _ _ _ _ tF tF _ st su).mono ?_
          rintro e w7 ⟨rfl, hg7⟩
          rw [HSM.out]
          go_wp2_with fail
          refine (rbytes_any _ _ _ _ _ _ F F _ (slx.gr hg7) (sl3.gr hg7)).mono ?_
          rintro e w8 ⟨rfl, hw8⟩
          subst hw8
          rw [HSB.out]
          go_wp2_with fail
          go_ret
          exact ⟨ret_bool (by simp), hgr6.trans hg7⟩
  | none =>
    obtain ⟨rfl, rfl⟩ := ha rfl
    have HY := hide h.byte
    clear hn ha
    cases raw
    · go_enter Tryd.func4, Tryd.ntmps4
      go_wp2_with fail
      have hg1 : Gr w (w.alloc (.cells #[] 5)) := (Gr.refl w).alloc _
      refine (made_any x y ca cn ccap cf _ (hcs.gr hg1) hcn).mono ?_
      rintro e w2 ⟨⟨g2, c2, N, rfl, hN, hown⟩, hg2⟩
      have hm := madeM_may hcs.byte hN
      have xb := within_bd x 1 40 (by omega)
      have yb := within_bd y 1 40 (by omega)
      generalize withinF x 1 40 = W at *
      generalize withinF y 1 40 = H at *
      generalize madeF cn cf = F0 at *
      have hFb := hown.byte
      have hlen := made_len hm hFb
      have hsm := made_small hm hFb xb.2 yb.2
      have hpm := rputM_any W H (some ⟨g2, 0, none⟩) N c2 F0 w2 hown.sl.2.2.2.2 hm
      have HPM := hide hpm
      have hgw2 := hg1.trans hg2
      clear hpm hown hm xb yb hN hFb hg2 hcn hcs
      go_wp2_with fail
      refine HPM.out.mono ?_
      rintro e w3 ⟨⟨g, c1, rfl, ho3⟩, hg3⟩
      have hgr0 := hgw2.trans hg3
      have ho0 := ho3.mono (base' := w.heap.size) hgw2.size
      obtain ⟨hl6, -, -⟩ := hlen
      clear HPM ho3 hg3 hgw2 hg1
      generalize at0 (putM W H F0) = F1 at *
      generalize hLL : (putM W H F0).length = n1 at *
      have hn30 : n1 ≤ 3000 := hsm
      have wN : IntKind.i64.wrap ((n1 : Int) - 1) = (n1 : Int) - 1 := wrapI (by omega)
      have hgb := ho0.sl.2.2.1
      clear hLL hsm
      go_wp2_with fail
      go_loopw [14] (fun i u => ∃ (k : Nat) (F : Nat → Int), k ≤ 3 ∧ i = .int .i64 k ∧ OwnB u w.heap.size g n1 c1 F ∧ Gr w u) (fun i _ => 3 - (intOf i).toNat)
      case atStart => exact ⟨0, F1, Nat.zero_le _, rfl, ho0, hgr0⟩
      case round =>
        clear ho0 hgr0
        obtain ⟨k, F, hk3, rfl, hO, hgr⟩ := hrel
        have HO := hide hO
        clear hO
        have hx1 : ¬ (k : Int) < 0 := by omega
        go_wp2_with fail
        generalize hUU : wr = u1 at *
        clear hUU
        obtain ⟨hq1, hq2, hqb, hqs, hqsl⟩ := HO.out.sl
        have hq4 : 4 ≤ n1 → (u1.cell? ⟨g, 0, none⟩ = some (.int .u8 (F 0)) ∧ 0 ≤ F 0 ∧ F 0 ≤ 255) ∧ (u1.cell? ⟨g, 1, none⟩ = some (.int .u8 (F 1)) ∧ 0 ≤ F 1 ∧ F 1 ≤ 255) ∧ (u1.cell? ⟨g, 2, none⟩ = some (.int .u8 (F 2)) ∧ 0 ≤ F 2 ∧ F 2 ≤ 255) ∧ (u1.cell? ⟨g, 3, none⟩ = some (.int .u8 (F 3)) ∧ 0 ≤ F 3 ∧ F 3 ≤ 255) := fun h => ⟨⟨HO.out.cellAt (by omega), HO.out.byte _ (by omega)⟩, ⟨HO.out.cellAt (by omega), HO.out.byte _ (by omega)⟩, ⟨HO.out.cellAt (by omega), HO.out.byte _ (by omega)⟩, ⟨HO.out.cellAt (by omega), HO.out.byte _ (by omega)⟩⟩
        clear hqsl hqs hqb
        generalize hF0 : F 0 = b0 at *
        generalize hF1 : F 1 = b1 at *
        generalize hF2 : F 2 = b2 at *
        generalize hF3 : F 3 = b3 at *
        by_cases h4 : n1 < 4
        · exact absurd h4 (by omega)
        · have i4 : (4 : Int) ≤ (n1 : Int) := by omega
          obtain ⟨⟨c0, y0⟩, ⟨c1', y1⟩, ⟨c2, y2⟩, ⟨c3, y3⟩⟩ := hq4 (by omega)
          obtain ⟨A, hA⟩ : ∃ A, b0 + 256 * b1 = A := ⟨_, rfl⟩
          obtain ⟨D, hD⟩ : ∃ D, b2 + 256 * b3 = D := ⟨_, rfl⟩
          have ab : 0 ≤ A ∧ A ≤ 65535 := by omega
          have db : 0 ≤ D ∧ D ≤ 65535 := by omega
          have pb := mul_bd (w := A) (h := D) (W := 65535) (H := 65535) (by omega) (by omega) (by omega) (by omega)
          have wP : IntKind.i64.wrap (A * D) = A * D := wrapI (by omega)
          have j0 : (0 : Int) < (n1 : Int) := by omega
          have j1 : (1 : Int) < (n1 : Int) := by omega
          have j2 : (2 : Int) < (n1 : Int) := by omega
          have j3 : (3 : Int) < (n1 : Int) := by omega
          by_cases hbig : 60000 < A * D
          · go_quiet (fail)
            clear c0 c1' c2 c3 y0 y1 y2 y3
            have hgq : Gr w (u1.drewN nq) := hgr.drewN nq
            go_wp2_with fail
            refine (HTD.out _ hgq).mono ?_
            rintro e w3 ⟨rfl, hg3⟩
            go_wp2_with fail
            go_ret
            exact ⟨rfl, hgq.trans hg3⟩
          · go_quiet (fail)
            clear c0 c1' c2 c3 y0 y1 y2 y3
            clear hF0 hF1 hF2 hF3 hA hD
            have hgq : Gr w (u1.drewN nq) := hgr.drewN nq
            have HO1 := hide (HO.out.gr ((Gr.refl u1).drewN nq))
            generalize u1.drewN nq = u2 at *
            go_wp2_with (at_builtin; refine wpList_append_own _ rfl _ _ 22 rfl u2.heap.size 5 i0 (.int .u8 0) 1 1 Tryd.underlying22 hi hz0 hz1 hz2 rfl (by decide) (.slice (some ⟨u2.heap.size, 0, none⟩) 0 0) 0 [] rfl (World.ownsRow_made u2 #[] 0 (Nat.le_refl _) (Nat.zero_le _) rfl) ⟨g, 0, none⟩ n1 c1 (cel .u8 n1 F) rfl (by simp [cel_len]) (own_news HO1.out ((Gr.refl _).alloc _)) (cel_one _ _ _) (by unfold maxLen; omega) (by omega) (by simp only [World.size_alloc]; omega) ?_; intro v' w3 hown3 hgrow3 hnil3; have hg3 := Gr.grown (a := u2) ((Gr.refl u2).alloc _) hgrow3 (fun k hk => Nat.le_of_eq (Option.some.inj hk)); obtain ⟨g3, c3, rfl, ho3, -⟩ := own_some hown3 hnil3 (by simp); clear hown3 hgrow3 hnil3)
            have sl3 : Sl w3 (some ⟨g3, 0, none⟩) n1 F := (OwnB.mk ho3 HO1.out.byte).sl.2.2.2.2
            have slx := (HO1.out.gr hg3).sl.2.2.2.2
            have hgr3 := hgq.trans hg3
            clear hg3 ho3 hgq HO1 HO hgr
            refine (aget_any _ _ _ F ga _ slx (HW.out _ hgr3) hq1 hq2 (by omega)).mono ?_
            rintro e w4 ⟨⟨v, rfl, hv⟩, hg4⟩
            obtain ⟨ta, tc, rfl, st⟩ := ansM_of hv
            clear hv
            replace slx := slx.gr hg4
            replace sl3 := sl3.gr hg4
            have hgr4 := hgr3.trans hg4
            obtain ⟨x1, x2, x3⟩ := tri_cells w4 (mW n1 F) (mH n1 F) (.slice ta (mN n1 F) tc) 24
            have ga4 := (Gr.refl w4).alloc (.cells #[.int .i64 (mW n1 F), .int .i64 (mH n1 F), .slice ta (mN n1 F) tc] 24)
            clear hg4 hgr3
            go_wp2_with fail
            replace slx := slx.gr ga4
            replace sl3 := sl3.gr ga4
            replace st := st.gr ga4
            replace hgr4 := hgr4.trans ga4
            clear ga4
            generalize (w4.alloc (.cells #[.int .i64 (mW n1 F), .int .i64 (mH n1 F), .slice ta (mN n1 F) tc] 24)) = u4 at *
            generalize w4.heap.size = B16 at *
            refine (rgetM_any _ _ _ F _ slx hq1 hq2 (by omega)).mono ?_
            rintro e w5 ⟨⟨v, rfl, hv⟩, hg5⟩
            obtain ⟨tb, td, rfl, su⟩ := ansM_of hv
            clear hv
            replace slx := slx.gr hg5
            replace sl3 := sl3.gr hg5
            replace st := st.gr hg5
            replace x1 := cell_gr x1 hg5
            replace x2 := cell_gr x2 hg5
            replace x3 := cell_gr x3 hg5
            have hgr5 := hgr4.trans hg5
            obtain ⟨y1, y2, y3⟩ := tri_cells w5 (mW n1 F) (mH n1 F) (.slice tb (mN n1 F) td) 24
            have ga5 := (Gr.refl w5).alloc (.cells #[.int .i64 (mW n1 F), .int .i64 (mH n1 F), .slice tb (mN n1 F) td] 24)
            clear hg5 hgr4
            go_wp2_with fail
            replace slx := slx.gr ga5
            replace sl3 := sl3.gr ga5
            replace st := st.gr ga5
            replace su := su.gr ga5
            replace x1 := cell_gr x1 ga5
            replace x2 := cell_gr x2 ga5
            replace x3 := cell_gr x3 ga5
            replace hgr5 := hgr5.trans ga5
            clear ga5
            generalize (w5.alloc (.cells #[.int .i64 (mW n1 F), .int .i64 (mH n1 F), .slice tb (mN n1 F) td] 24)) = u5 at *
            generalize w5.heap.size = B18 at *
            have HSM := hide (sameTB_of (W := mW n1 F) (H := mH n1 F) (n := mN n1 F) (m := mN n1 F) (f := mF n1 F) (g := mF n1 F) rfl (fun _ _ => rfl))
            have HSB := hide (sameB_refl n1 F)
            generalize mW n1 F = tW at *
            generalize mH n1 F = tH at *
            generalize mN n1 F = tN at *
            generalize mF n1 F = tF at *
            generalize (getM n1 F).1 = tk at *
            refine (HTD.out _ hgr5).mono ?_
            rintro e w6 ⟨rfl, hg6⟩
            replace slx := slx.gr hg6
            replace sl3 := sl3.gr hg6
            replace st := st.gr hg6
            replace su := su.gr hg6
            replace x1 := cell_gr x1 hg6
            replace x2 := cell_gr x2 hg6
            replace x3 := cell_gr x3 hg6
            replace y1 := cell_gr y1 hg6
            replace y2 := cell_gr y2 hg6
            replace y3 := cell_gr y3 hg6
            have hgr6 := hgr5.trans hg6
            clear hg6 hgr5
            go_wp2_with fail
            refine (rsameM_any _ _ _ _ _ _ _ _ _ _ tF tF _ st su).mono ?_
            rintro e w7 ⟨rfl, hg7⟩
            rw [HSM.out]
            go_wp2_with fail
            refine (rbytes_any _ _ _ _ _ _ F F _ (slx.gr hg7) (sl3.gr hg7)).mono ?_
            rintro e w8 ⟨rfl, hw8⟩
            subst hw8
            rw [HSB.out]
            go_wp2_with fail
            go_ret
            exact ⟨ret_bool (by simp), hgr6.trans hg7⟩
    · go_enter Tryd.func4, Tryd.ntmps4
      go_wp2_with fail
      have HO : Hid (OwnB (w.alloc (.cells #[] 5)) w.heap.size w.heap.size 0 0 f) := hide ⟨World.ownsRow_made w #[] 0 (Nat.le_refl _) (Nat.zero_le _) rfl, HY.out⟩
      have hgr : Gr w (w.alloc (.cells #[] 5)) := (Gr.refl w).alloc _
      have hn30 : (0 : Nat) ≤ 3000 := by omega
      generalize hFF : f = F at *
      generalize (w.alloc (.cells #[] 5)) = u1 at *
      clear hFF
      go_quiet (fail)
      have hgr3 : Gr w ((u1.drewN nq).alloc (.cells #[] 5)) := (hgr.drewN nq).alloc _
      have hsE : ∀ (u : World) (a : Option Addr), Sl u a 0 F := fun u a => ⟨fun _ hi => absurd hi (Nat.not_lt_zero _), .inl rfl⟩
      go_wp2_with fail
      generalize ((u1.drewN nq).alloc (.cells #[] 5)) = w3 at *
      generalize u1.heap.size = B0 at *
      have slx := hsE w3 (some ⟨w.heap.size, 0, none⟩)
      have sl3 := hsE w3 (some ⟨B0, 0, none⟩)
      have hq1 : (0 : Nat) ≤ 0 := Nat.le_refl _
      have hq2 : (0 : Nat) ≤ maxLen := Nat.zero_le _
      clear hsE hgr HO
      refine (aget_any _ _ _ F ga _ slx (HW.out _ hgr3) hq1 hq2 (by omega)).mono ?_
      rintro e w4 ⟨⟨v, rfl, hv⟩, hg4⟩
      obtain ⟨ta, tc, rfl, st⟩ := ansM_of hv
      clear hv
      replace slx := slx.gr hg4
      replace sl3 := sl3.gr hg4
      have hgr4 := hgr3.trans hg4
      obtain ⟨x1, x2, x3⟩ := tri_cells w4 (mW 0 F) (mH 0 F) (.slice ta (mN 0 F) tc) 24
      have ga4 := (Gr.refl w4).alloc (.cells #[.int .i64 (mW 0 F), .int .i64 (mH 0 F), .slice ta (mN 0 F) tc] 24)
      clear hg4 hgr3
      go_wp2_with fail
      replace slx := slx.gr ga4
      replace sl3 := sl3.gr ga4
      replace st := st.gr ga4
      replace hgr4 := hgr4.trans ga4
      clear ga4
      generalize (w4.alloc (.cells #[.int .i64 (mW 0 F), .int .i64 (mH 0 F), .slice ta (mN 0 F) tc] 24)) = u4 at *
      generalize w4.heap.size = B16 at *
      refine (rgetM_any _ _ _ F _ slx hq1 hq2 (by omega)).mono ?_
      rintro e w5 ⟨⟨v, rfl, hv⟩, hg5⟩
      obtain ⟨tb, td, rfl, su⟩ := ansM_of hv
      clear hv
      replace slx := slx.gr hg5
      replace sl3 := sl3.gr hg5
      replace st := st.gr hg5
      replace x1 := cell_gr x1 hg5
      replace x2 := cell_gr x2 hg5
      replace x3 := cell_gr x3 hg5
      have hgr5 := hgr4.trans hg5
      obtain ⟨y1, y2, y3⟩ := tri_cells w5 (mW 0 F) (mH 0 F) (.slice tb (mN 0 F) td) 24
      have ga5 := (Gr.refl w5).alloc (.cells #[.int .i64 (mW 0 F), .int .i64 (mH 0 F), .slice tb (mN 0 F) td] 24)
      clear hg5 hgr4
      go_wp2_with fail
      replace slx := slx.gr ga5
      replace sl3 := sl3.gr ga5
      replace st := st.gr ga5
      replace su := su.gr ga5
      replace x1 := cell_gr x1 ga5
      replace x2 := cell_gr x2 ga5
      replace x3 := cell_gr x3 ga5
      replace hgr5 := hgr5.trans ga5
      clear ga5
      generalize (w5.alloc (.cells #[.int .i64 (mW 0 F), .int .i64 (mH 0 F), .slice tb (mN 0 F) td] 24)) = u5 at *
      generalize w5.heap.size = B18 at *
      have HSM := hide (sameTB_of (W := mW 0 F) (H := mH 0 F) (n := mN 0 F) (m := mN 0 F) (f := mF 0 F) (g := mF 0 F) rfl (fun _ _ => rfl))
      have HSB := hide (sameB_refl 0 F)
      generalize mW 0 F = tW at *
      generalize mH 0 F = tH at *
      generalize mN 0 F = tN at *
      generalize mF 0 F = tF at *
      generalize (getM 0 F).1 = tk at *
      refine (HTD.out _ hgr5).mono ?_
      rintro e w6 ⟨rfl, hg6⟩
      replace slx := slx.gr hg6
      replace sl3 := sl3.gr hg6
      replace st := st.gr hg6
      replace su := su.gr hg6
      replace x1 := cell_gr x1 hg6
      replace x2 := cell_gr x2 hg6
      replace x3 := cell_gr x3 hg6
      replace y1 := cell_gr y1 hg6
      replace y2 := cell_gr y2 hg6
      replace y3 := cell_gr y3 hg6
      have hgr6 := hgr5.trans hg6
      clear hg6 hgr5
      go_wp2_with fail
      refine (rsameM_any _ _ _ _ _ _ _ _ _ _ tF tF _ st su).mono ?_
      rintro e w7 ⟨rfl, hg7⟩
      rw [HSM.out]
      go_wp2_with fail
      refine (rbytes_any _ _ _ _ _ _ F F _ (slx.gr hg7) (sl3.gr hg7)).mono ?_
      rintro e w8 ⟨rfl, hw8⟩
      subst hw8
      rw [HSB.out]
      go_wp2_with fail
      go_ret
      exact ⟨ret_bool (by simp), hgr6.trans hg7⟩

end Go.Proofs.YtakmiafloolpmaaDoor
