/- A mesh's Rebuild: each sector that is dirty is as the grid is. No condition. -/
import Derived.Test.YtgbadbkipaccgaaGreatMBuild14
import Derived.Test.YtgbadbkipaccgaaGreatYAdd
namespace Go.Proofs.YtgbadbkipaccgaaGreat
open Go.RowKit
set_option maxRecDepth 20000

theorem Prt.base {w : World} {B B' : Nat} {W H : Int} {N : Nat} {S : Nat → Int} {v : Int} {s : Nat} {x : Pc} (h : Prt w B' W H N S v s x) (hb : B ≤ B') : Prt w B W H N S v s x := by
  refine ⟨h.ver, own_baseI h.nodes hb, ?_, h.rn⟩
  obtain ⟨R, h1, h2⟩ := h.rows
  refine ⟨R, ?_, h2⟩
  rcases h1 with h1 | ⟨g, e, hg, hr⟩
  · exact .inl h1
  · exact .inr ⟨g, e, by omega, hr⟩
theorem kp_set3 {S : Nat → Prop} (w : World) {q i j k : Nat} (hq : S q) (a b c : Value) : Kp S w (((w.setCell ⟨q, i, none⟩ a).setCell ⟨q, j, none⟩ b).setCell ⟨q, k, none⟩ c) :=
  Kp.set (S := S) (p := ⟨q, k, none⟩) (Kp.set (S := S) (p := ⟨q, j, none⟩) (Kp.set (S := S) (p := ⟨q, i, none⟩) (Kp.refl _ w) (.inl hq) _) (.inl hq) _) (.inl hq) _
theorem cell_far3' {w : World} {p o q i j k : Nat} {v x y z : Value} (h : w.cell? ⟨p, o, none⟩ = some v) (hq : p ≠ q) : (((w.setCell ⟨q, i, none⟩ x).setCell ⟨q, j, none⟩ y).setCell ⟨q, k, none⟩ z).cell? ⟨p, o, none⟩ = some v :=
  (kp_set3 (S := fun b => b = q) w rfl x y z).cell h hq
theorem updS_byt {W : Int} {N : Nat} {S f : Nat → Int} {P : List Nat} (h : Byt N S) (k : Byt N f) : Byt N (updS W S f P) := fun c hc => by
  unfold updS
  split
  · exact k c hc
  · exact h c hc
theorem updS_nil (W : Int) (S f : Nat → Int) : updS W S f [] = S := by funext c; simp [updS]
theorem updV_nil (mv ver : Nat → Int) : updV mv ver [] = mv := by funext c; simp [updV]
theorem updV_old {mv ver : Nat → Int} {P : List Nat} {d s : Nat} (h : s ≠ d) : updV mv ver (P ++ [d]) s = updV mv ver P s := by
  unfold updV
  simp [h]
theorem updV_new {mv ver : Nat → Int} {P : List Nat} {d : Nat} : updV mv ver (P ++ [d]) d = ver d := by
  unfold updV
  simp
theorem take_next {L : List Nat} {j d : Nat} (h : L[j]? = some d) : L.take (j + 1) = L.take j ++ [d] := by rw [List.take_add_one, h]; rfl

section
variable {w w9 : World} {p q gp B B' : Nat} {W H : Int} {N : Nat} {S S' f mv mv' : Nat → Int} {cnt : Int}
theorem Ms.put (h : Ms w9 p q gp B W H N S mv cnt) {d : Nat} {v : Int} {x : Pc} (hd : d < cntS W H) (hp : Prt w9 B' W H N f v d x) (hB : B ≤ B') (hg : GoodS W H N f d)
    (e1 : ∀ s, s < cntS W H → s ≠ d → SecEq W N s S S' ∧ mv' s = mv s) (e2 : SecEq W N d f S') (e3 : mv' d = v) (hb : Byt N S') :
    Ms (((w9.setCell ⟨q, d * 3, none⟩ (.int .i64 x.ver)).setCell ⟨q, d * 3 + 1, none⟩ (.slice x.na x.nn x.nc)).setCell ⟨q, d * 3 + 2, none⟩ (.slice x.ra x.rn x.rc)) p q gp B W H N S' mv' cnt := by
  obtain ⟨hm, hN⟩ := h.may
  obtain ⟨P, h1, h2⟩ := h.parts
  have hk := kp_set3 (S := fun b => b = q) w9 (q := q) (i := d * 3) (j := d * 3 + 1) (k := d * 3 + 2) rfl (.int .i64 x.ver) (.slice x.na x.nn x.nc) (.slice x.ra x.rn x.rc)
  have hqB : ∀ b, b = q → b < B := fun b e => by have := h.apart.2.1; omega
  refine ⟨hk.row h.box (fun e => h.apart.2.2.1 e), ⟨pcU P d x, ?_, fun s hs => ?_⟩, ⟨h.apart.1, h.apart.2.1, h.apart.2.2.1, Nat.le_trans h.apart.2.2.2 hk.size⟩, h.may, hb, fun s hs => ?_⟩
  · exact World.rowIs.congr (((h1.set (d * 3) _).set (d * 3 + 1) _).set (d * 3 + 2) _) (fun i _ => pcF_set i)
  · by_cases e : s = d
    · subst e
      unfold pcU
      rw [if_pos rfl, e3]
      exact ((hp.base hB).kp hk hqB).sec hm hN hs e2
    · unfold pcU
      rw [if_neg e, (e1 s hs e).2]
      exact ((h2 s hs).kp hk hqB).sec hm hN hs (e1 s hs e).1
  · by_cases e : s = d
    · subst e
      exact hg.sec hN (sec_of hs) e2
    · exact (h.good s hs).sec hN (sec_of hs) (e1 s hs e).1
theorem Ms.count (h : Ms w p q gp B W H N S mv cnt) (c' : Int) : Ms (w.setCell ⟨p, 2, none⟩ (.int .u64 c')) p q gp B W H N S mv c' := by
  have hk := Kp.one w p 2 (.int .u64 c')
  obtain ⟨P, h1, h2⟩ := h.parts
  have hpB : ∀ b, b = p → b < B := fun b e => by have := h.apart.1; omega
  refine ⟨World.rowIs.congr (h.box.set 2 _) (fun i hi => ?_), ⟨P, hk.row h1 (fun e => h.apart.2.2.1 e.symm), fun s hs => (h2 s hs).kp hk hpB⟩, ⟨h.apart.1, h.apart.2.1, h.apart.2.2.1, Nat.le_trans h.apart.2.2.2 hk.size⟩, h.may, h.byte, h.good⟩
  rcases (by omega : i = 0 ∨ i = 1 ∨ i = 2) with rfl | rfl | rfl <;> simp [tri]
end

/-- the mesh's blocks are none of the grid's -/
def Apt (p q gp c v : Nat) : Prop := ∀ b, (b = p ∨ b = q) → ¬ (b = gp ∨ b = c ∨ b = v)
theorem Gd.apt {w w' : World} {p q gp c v : Nat} {W H : Int} {N cc : Nat} {f : Nat → Int} {ep : Int} {ver : Nat → Int} (g : Gd w gp c v W H N cc f ep ver) (k : Kp (fun b => b = p ∨ b = q) w w') (ha : Apt p q gp c v) : Gd w' gp c v W H N cc f ep ver :=
  g.kp k (fun e => ha gp e (.inl rfl)) (fun e => ha c e (.inr (.inl rfl))) (fun e => ha v e (.inr (.inr rfl)))

set_option maxHeartbeats 2000000 in
theorem mrebuild_any {w : World} {p q gp B : Nat} {W H : Int} {N : Nat} {S mv : Nat → Int} {cnt : Int} (h : Ms w p q gp B W H N S mv cnt) {c v cc : Nat} {f : Nat → Int} {ep : Int} {ver : Nat → Int} (g : Gd w gp c v W H N cc f ep ver) (ha : Apt p q gp c v) (hc : 0 ≤ cnt ∧ cnt ≤ 1000000000000) :
    Calls Tryz.prog 15 #[.pointer (some ⟨p, 0, none⟩)] w fun e w' => e = .returned (.int .i64 ((dirL mv ver (cntS W H)).length : Nat)) ∧ Ms w' p q gp B W H N (updS W S f (dirL mv ver (cntS W H))) (updV mv ver (dirL mv ver (cntS W H))) (cnt + (dirL mv ver (cntS W H)).length) ∧ Kp (fun b => b = p ∨ b = q) w w' := by
  obtain ⟨D, hD⟩ : ∃ D, dirL mv ver (cntS W H) = D := ⟨_, rfl⟩
  have hDm : ∀ s, s ∈ D → s < cntS W H := fun s hs => by rw [← hD] at hs; exact (dir_mem.1 hs).1
  have hDl : D.length ≤ cntS W H := by rw [← hD]; exact dir_len mv ver _
  have hb := h.bd.2.1
  have hap := h.apart
  have HM := hide h
  have HG := hide g
  have HA := hide ha
  have hfb : Byt N f := fun i hi => by
    have a := g.byte i hi
    have b := ((mayM_iff _ _ _ _).1 g.may).2.2 i hi
    omega
  have HB := hide hfb
  have HDR := hide (mdirty_any h g)
  rw [hD] at HDR ⊢
  have HDM := hide hDm
  obtain ⟨m, hm⟩ : ∃ m, D.length = m := ⟨_, rfl⟩
  rw [hm] at HDR hDl ⊢
  have HML := hide hm
  have HAP := hide hap
  clear h g hD hDm hm ha hfb hap
  go_enter Tryz.func15, Tryz.ntmps15
  go_wp2_with (go_at_call 16; refine (HDR.out).mono ?_; rintro e w1 ⟨⟨v2, rfl, hown⟩, hg1⟩; obtain ⟨al, cl, rfl, hil⟩ := IlS.of_own hown HML.out)
  have HO := hide hown
  have HG1 := hide hg1
  have hM1 := HM.out.gr hg1
  clear hil hown hg1 HDR
  go_loopw [10] (fun i u => ∃ j : Nat, j ≤ m ∧ i = .int .i64 j ∧ Ms u p q gp B W H N (updS W S f (D.take j)) (updV mv ver (D.take j)) (cnt + j) ∧ Kp (fun b => b = p ∨ b = q) w1 u) (fun i _ => m - (intOf i).toNat)
  case atStart => exact ⟨0, Nat.zero_le _, rfl, by rw [List.take_zero, updS_nil, updV_nil]; simpa using hM1, Kp.refl _ _⟩
  case round =>
    obtain ⟨j, hj, rfl, hMu, hkp⟩ := hrel
    clear hM1
    by_cases hlt : j < m
    · have hjI : (j : Int) < (m : Int) := by omega
      have hj0 : 0 ≤ (j : Int) := by omega
      have hpq : ∀ b, (b = p ∨ b = q) → b < w.heap.size := fun b e => by have := HAP.out; omega
      obtain ⟨al', cl', e, hil⟩ := IlS.of_own (own_kpB HO.out hkp hpq) HML.out
      cases e
      obtain ⟨b, o, rfl, hB, hcell⟩ := hil.at (by omega)
      have ck := hcell j hlt
      obtain ⟨d, hd⟩ : ∃ d, D.getD j 0 = d := ⟨_, rfl⟩
      rw [hd] at ck
      have hdj : D[j]? = some d := by
        have := HML.out
        rw [List.getElem?_eq_getElem (by omega), ← hd, List.getD_eq_getElem?_getD, List.getElem?_eq_getElem (by omega)]
        rfl
      have hdn := HDM.out d (List.mem_of_getElem? hdj)
      have HT := hide (take_next hdj)
      have hdI : (d : Int) < (cntS W H : Int) := by omega
      have hd0 : 0 ≤ (d : Int) := by omega
      obtain ⟨c0, c1, c2⟩ := hMu.cells
      obtain ⟨P, hq, -⟩ := hMu.parts
      have HMU := hide hMu
      have HGU := hide ((HG.out.gr HG1.out).apt hkp HA.out)
      have HK := hide hkp
      have HQ := hide hq
      have hne : p ≠ q := HAP.out.2.2.1
      clear hil hcell hd hdj hMu hkp hq hpq c0 c2
      go_wp2_with fail
      go_region_held3 (fun z => z.cell? ⟨p, 1, none⟩ = some (.slice (some ⟨q, 0, none⟩) (cntS W H) (cntS W H))) (first | exact c1 | exact e1 | exact cell_far3' e1 hne) ((go_at_call 39; refine (mbuild_any (HMU.out.gr ((Gr.refl wr).drew)) (HGU.out.gr ((Gr.refl wr).drew)) hdn).mono ?_; rintro e w9 ⟨⟨x, rfl, hprt, hgood⟩, hg9'⟩; have hg9 : Gr wr w9 := ((Gr.refl wr).drew).trans hg9'; have e1 := cell_gr c1 hg9; have e5 := (row_gr HQ.out hg9).cell (i := d * 3) (by omega); have e6 := (row_gr HQ.out hg9).cell (i := d * 3 + 1) (by omega); have e7 := (row_gr HQ.out hg9).cell (i := d * 3 + 2) (by omega); have f5 := (row_gr HQ.out hg9).frozen (d * 3); have f6 := (row_gr HQ.out hg9).frozen (d * 3 + 1); have f7 := (row_gr HQ.out hg9).frozen (d * 3 + 2)))
      have hM10 := Ms.put (HMU.out.gr hg9) hdn hprt (S' := updS W S f (D.take (j + 1))) (mv' := updV mv ver (D.take (j + 1))) (show B ≤ wr.heap.size from HMU.out.apart.2.2.2) hgood (fun s _ hne => ⟨by rw [HT.out]; exact upd_old hne, by rw [HT.out]; exact updV_old hne⟩) (by rw [HT.out]; exact upd_new) (by rw [HT.out]; exact updV_new) (updS_byt HM.out.byte HB.out)
      have hk10 : Kp (fun b => b = p ∨ b = q) w1 (((w9.setCell ⟨q, d * 3, none⟩ (.int .i64 x.ver)).setCell ⟨q, d * 3 + 1, none⟩ (.slice x.na x.nn x.nc)).setCell ⟨q, d * 3 + 2, none⟩ (.slice x.ra x.rn x.rc)) := (HK.out.grb hg9).trans (kp_set3 w9 (.inr rfl) _ _ _)
      generalize (((w9.setCell ⟨q, d * 3, none⟩ (.int .i64 x.ver)).setCell ⟨q, d * 3 + 1, none⟩ (.slice x.na x.nn x.nc)).setCell ⟨q, d * 3 + 2, none⟩ (.slice x.ra x.rn x.rc)) = w10 at *
      have z2 := hM10.cells.2.2
      have z3 := hM10.box.frozen 2
      have hadd : addF (cnt + (j : Int)) 1 = cnt + ((j + 1 : Nat) : Int) := by unfold addF; rw [if_pos (by omega)]; omega
      have HM10 := hide hM10
      have HK10 := hide hk10
      clear e5 e6 e7 f5 f6 f7 e1 c1 hprt hgood hg9 hg9' hM10 hk10 ck
      go_wp2_with (go_at_call 40; refine (add_any _ _ _ (by unfold U; omega) (by unfold U; omega)).mono ?_; rintro e w11 ⟨rfl, rfl⟩; rw [hadd])
      exact ⟨⟨j + 1, by omega, by go_num, HM10.out.count _, HK10.out.set (.inl (.inl rfl)) _⟩, by simp [intOf]; omega⟩
    · obtain rfl : j = m := by omega
      have ht : D.take j = D := List.take_of_length_le (by have := HML.out; omega)
      rw [ht] at hMu
      go_wp2
      go_ret
      exact ⟨rfl, hMu, HG1.out.kpb hkp⟩
end Go.Proofs.YtgbadbkipaccgaaGreat
