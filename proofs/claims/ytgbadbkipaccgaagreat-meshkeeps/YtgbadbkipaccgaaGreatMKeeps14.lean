/- MeshKeeps: till it is rebuilt, a sector's nodes and distances stay as they were; behind it they are those of the map now. No condition. -/
import Derived.Test.YtgbadbkipaccgaaGreatMBuilt14
import Derived.Test.YtgbadbkipaccgaaGreatMRows14
import Derived.Test.YtgbadbkipaccgaaGreatMEdited14
import Derived.Test.YtgbadbkipaccgaaGreatMRDist14b
import Derived.Test.YtgbadbkipaccgaaGreatBRNodes11
import Derived.Test.YtgbadbkipaccgaaGreatGTile
namespace Go.Proofs.YtgbadbkipaccgaaGreat
open Go.RowKit
set_option maxRecDepth 20000

/- a store into a block of other things -/
theorem own_kpT {S : Nat → Prop} {w w' : World} {base size : Nat} {e : TypeId} {v : Value} {n : Nat} {xs : List Value} (h : w.ownsRow base e size v n xs) (k : Kp S w w') {B0 : Nat} {t : TypeId} {m : Nat} {f : Nat → Value} (hS : ∀ b, S b → b = B0) (hr : w.rowIs B0 t m f) (ht : t ≠ e) : w'.ownsRow base e size v n xs := by
  refine ⟨h.1, ?_⟩
  rcases h.2 with q | ⟨b, cap, cur, e1, hb, hg, r⟩
  · exact .inl q
  · refine .inr ⟨b, cap, cur, e1, hb, (k.block b (Array.getElem?_eq_some_iff.1 hg).1 (fun q => ?_)).trans hg, r⟩
    have := hS b q
    subst this
    obtain ⟨cur', e', -⟩ := hr
    rw [hg] at e'
    cases e'
    exact ht rfl
theorem Row.kpT {S : Nat → Prop} {w w' : World} {b : Nat} {t : TypeId} {k : IntKind} {n : Nat} {f : Nat → Int} (h : Row w b t k n f) (g : Kp S w w') {B0 : Nat} {t' : TypeId} {m : Nat} {F : Nat → Value} (hS : ∀ b, S b → b = B0) (hr : w.rowIs B0 t' m F) (ht : t' ≠ t) : Row w' b t k n f := by
  refine h.kp g (fun q => ?_)
  have := hS b q
  subst this
  obtain ⟨m1, g1, h1, ⟨c1, e1, -⟩, -⟩ := h
  obtain ⟨c2, e2, -⟩ := hr
  rw [e1] at e2
  cases e2
  exact ht rfl
theorem Ms.kpT {P : Nat → Prop} {w w' : World} {p q gp B : Nat} {W H : Int} {N : Nat} {S mv : Nat → Int} {cnt : Int} (h : Ms w p q gp B W H N S mv cnt) (k : Kp P w w') {B0 m : Nat} {F : Nat → Value} (hS : ∀ b, P b → b = B0) (hr : w.rowIs B0 24 m F) (h1 : p ≠ B0) (h2 : q ≠ B0) : Ms w' p q gp B W H N S mv cnt := by
  obtain ⟨Q, a, b⟩ := h.parts
  refine ⟨k.row h.box (fun e => h1 (hS _ e)), ⟨Q, k.row a (fun e => h2 (hS _ e)), fun s hs => ?_⟩, ⟨h.apart.1, h.apart.2.1, h.apart.2.2.1, Nat.le_trans h.apart.2.2.2 k.size⟩, h.may, h.byte, h.good⟩
  have hp := b s hs
  refine ⟨hp.ver, own_kpT hp.nodes k hS hr (by decide), ?_, hp.rn⟩
  obtain ⟨R, r1, r2⟩ := hp.rows
  refine ⟨R, ?_, r2⟩
  rcases r1 with r1 | ⟨g, e, hb, hg⟩
  · exact .inl r1
  · exact .inr ⟨g, e, hb, hg.kpT k hS hr (by decide)⟩
theorem Duo.kpT {P : Nat → Prop} {w0 w w' : World} {p q gp c v B : Nat} {W H : Int} {N cc : Nat} {f : Nat → Int} {ep : Int} {ver S mv : Nat → Int} {cnt : Int} (h : Duo w0 w p q gp c v B W H N cc f ep ver S mv cnt) (k : Kp P w w') {B0 m : Nat} {F : Nat → Value} (hS : ∀ b, P b → b = B0) (hr : w.rowIs B0 24 m F) (hB : B ≤ B0) (hw : w0.heap.size ≤ B0) : Duo w0 w' p q gp c v B W H N cc f ep ver S mv cnt := by
  have h1 := h.ms.apart
  have h2 := h.lt
  exact ⟨h.ms.kpT k hS hr (by omega) (by omega), h.gd.kp k (fun e => by have := hS _ e; omega) (fun e => by have := hS _ e; omega) (fun e => by have := hS _ e; omega), h.lt, h.ge, h.apt, k.gr h.gr (fun b e => by have := hS b e; omega), h.same, h.low⟩

theorem sameTB_rfl (W H : Int) (n : Nat) (f : Nat → Int) : sameTB W H n f W H n f = true := by simp [sameTB, sameB]
/-- the statement's state -/
def KSt (w u : World) (p q gp c v B B0 : Nat) (W H : Int) (N cc : Nat) (F : Nat → Int) (cnt : Int) (base : Nat) (al : Option Addr) (nn cl : Nat) (L : List Nat) (i : Nat) : Prop :=
  ∃ (f : Nat → Int) (ep : Int) (ver : Nat → Int) (gm cm : Nat), Duo w u p q gp c v B W H N cc f ep ver F (fun _ => 1) cnt ∧ u.rowIs B0 24 3 (tri (.int .i64 W) (.int .i64 H) (.slice (some ⟨gm, 0, none⟩) N cm)) ∧ Sl u (some ⟨gm, 0, none⟩) N f ∧ (∀ b, (b = p ∨ b = q ∨ b = gp ∨ b = c ∨ b = v ∨ b = B0) → b ≠ gm) ∧ (N ≤ cm ∧ cm ≤ maxLen) ∧ u.ownsRow base 3 1 (.slice al nn cl) nn (flatN L) ∧ 1 ≤ ep ∧ ep ≤ 1 + i
section
variable {w u u' : World} {p q gp c v B B0 : Nat} {W H : Int} {N cc : Nat} {F : Nat → Int} {cnt : Int} {base : Nat} {al : Option Addr} {nn cl : Nat} {L : List Nat} {i : Nat}
theorem IlS.own (h : u.ownsRow base 3 1 (.slice al nn cl) nn (flatN L)) (hn : L.length = nn) : IlS u al nn cl L := by
  obtain ⟨a, c, e, k⟩ := IlS.of_own h hn
  simp only [Value.slice.injEq, true_and] at e
  obtain ⟨rfl, rfl⟩ := e
  exact k
end

set_option maxHeartbeats 4000000 in
theorem meshKeeps_any (x y : Int) (a : Option Addr) (n cap : Nat) (f : Nat → Int) (al : Option Addr) (nl cl : Nat) (lc lk : Nat → Int) (sc ca cb : Int) (w : World) (h : Sl w a n f) (hn : n ≤ maxLen) (hl : LayS w al nl lc lk) (hnl : nl ≤ maxLen) :
    Calls Tryz.prog 5 #[.int .i64 x, .int .i64 y, .slice a n cap, .slice al nl cl, .int .i64 sc, .int .i64 ca, .int .i64 cb] w fun e w' => e = .returned (.bool true) ∧ Gr w w' := by
  have HL := hide hl
  unfold maxLen at hnl
  clear hl
  go_enter Tryz.func5, Tryz.ntmps5
  go_wp2_with fail
  refine (built_any x y a n cap f w h hn).mono ?_
  rintro e w1 ⟨W, H, N, gm, cm, F, p, q, gp, c, v, B, cc, rfl, hb⟩
  have hga : Gr w1 (w1.alloc (.cells #[.int .i64 W, .int .i64 H, .slice (some ⟨gm, 0, none⟩) N cm] 24)) := (Gr.refl w1).alloc _
  have hBm := tri_alloc w1 (.int .i64 W) (.int .i64 H) (.slice (some ⟨gm, 0, none⟩) N cm) 24
  obtain ⟨hsl, hfar, hcap, hmay, hbig, hduo⟩ := hb
  have hgmB : gm < w1.heap.size := by
    obtain ⟨b', o', e', hb', -⟩ := hsl.at (by omega)
    cases e'
    exact hb'
  replace hsl := hsl.gr hga
  have hD := hduo.more hga
  have hBB : B ≤ w1.heap.size := hduo.ms.apart.2.2.2
  have hww : w.heap.size ≤ w1.heap.size := hduo.gr.size
  have hpq : p < B ∧ q < B := ⟨hduo.ms.apart.1, hduo.ms.apart.2.1⟩
  obtain ⟨hmb, hNm, -⟩ := (mayM_iff _ _ _ _).1 hmay
  have hcn := (cntS_eq hmb).2
  have hci := cntS_int W H
  have HFA := hide hfar
  have HNM := hide hNm
  have HCAP := hide hcap
  clear hduo hfar hmay h hn hNm hcap
  go_wp2_with fail
  generalize (w1.alloc (.cells #[.int .i64 W, .int .i64 H, .slice (some ⟨gm, 0, none⟩) N cm] 24)) = u1 at *
  obtain ⟨B0, hB0⟩ : ∃ B0, w1.heap.size = B0 := ⟨_, rfl⟩
  rw [hB0] at hBm hBB hww hgmB ⊢
  clear hga hB0
  have HD1 := hide hD
  have HSL1 := hide hsl
  have HBM1 := hide hBm
  clear hD hsl hBm
  go_wp2_with fail
  refine (duo_rebuild HD1.out (by omega)).mono ?_
  rintro e w2 ⟨rfl, hD2, hk2⟩
  have e5 : (dirL (fun _ => 0) (fun _ => 1) (cntS W H)).length = cntS W H := dir_all (fun s _ => by omega)
  rw [e5] at hD2 ⊢
  obtain ⟨cnt, hcnt⟩ : ∃ cnt : Int, (0 : Int) + ((cntS W H : Nat) : Int) = cnt := ⟨_, rfl⟩
  have hcb : 0 ≤ cnt ∧ cnt ≤ 4096 := by omega
  rw [hcnt] at hD2
  have hsl2 := hk2.sl HSL1.out (fun e => HFA.out gm (by omega) rfl)
  have hbx2 := hk2.row HBM1.out (b := B0) (fun e => by omega)
  obtain ⟨c1, c2, c3, -, -, -⟩ := row_cells hbx2
  have HD2 := hide hD2
  have HSL2 := hide hsl2
  have HBM2 := hide hbx2
  clear hD2 hsl2 hbx2 hk2 HD1 HSL1 HBM1 e5
  go_wp2_with fail
  refine (rcount_any W H _).mono ?_
  rintro e w3 ⟨rfl, hd3⟩
  rw [← hci]
  obtain ⟨C, hC⟩ : ∃ C, cntS W H = C := ⟨_, rfl⟩
  rw [hC] at hcn ⊢
  have HC := hide hC
  have hwC : IntKind.i64.wrap ((C : Int) - 1) = (C : Int) - 1 := wrapI (by omega)
  have hb1 := within_bd sc 0 ((C : Int) - 1) (by omega)
  obtain ⟨s, hs⟩ : ∃ s : Nat, withinF sc 0 ((C : Int) - 1) = s := ⟨(withinF sc 0 ((C : Int) - 1)).toNat, by omega⟩
  have HW0 : Hid (∀ u, Calls Tryz.prog 10 #[.int .i64 sc, .int .i64 0, .int .i64 ((C : Int) - 1)] u fun e w' => e = .returned (.int .i64 (s : Int)) ∧ Dr u w') := hide fun u => by
    rw [← hs]
    exact within_any _ _ _ u (by omega) (by omega) (by omega)
  have hg23 := hd3.gr
  clear hC hci hcnt hb1 hs hd3
  go_wp2_with fail
  refine (HW0.out _).mono ?_
  rintro e w4 ⟨rfl, hd4⟩
  have hg24 := hg23.trans hd4.gr
  have HD4 := hide (HD2.out.more hg24)
  have HSL4 := hide (HSL2.out.gr hg24)
  have HBM4 := hide (row_gr HBM2.out hg24)
  clear HD2 HSL2 HBM2 hg23 hd4 hg24 HW0 hwC c1 c2 c3
  go_wp2_with fail
  refine (mnodes_any HD4.out.ms (s : Int)).mono ?_
  rintro e w5 ⟨⟨v5, rfl, ho5⟩, hg5⟩
  have h60 := cellsL_len W H (s : Int)
  have h61 : (nodesL W H N F (s : Int)).length ≤ (cellsL W H (s : Int)).length := by unfold nodesL; exact List.length_filter_le _ _
  obtain ⟨L, hL⟩ : ∃ L, nodesL W H N F (s : Int) = L := ⟨_, rfl⟩
  rw [hL] at ho5 h61
  obtain ⟨nn, hnn⟩ : ∃ nn, L.length = nn := ⟨_, rfl⟩
  rw [hnn] at ho5 h61
  obtain ⟨base, hbase⟩ : ∃ base, w4.heap.size = base := ⟨_, rfl⟩
  rw [hbase] at ho5
  have hB0b : B0 < base := by have := HBM4.out.lt; omega
  obtain ⟨aL, cL, rfl, hil⟩ := IlS.of_own ho5 hnn
  have HOW5 := hide ho5
  have HL5 := hide hL
  have HNN := hide hnn
  have HIL5 := hide hil
  have HD5 := hide (HD4.out.more hg5)
  have HSL5 := hide (HSL4.out.gr hg5)
  have HBM5 := hide (row_gr HBM4.out hg5)
  obtain ⟨d1, d2, d3, -, -, -⟩ := row_cells HBM5.out
  clear ho5 hL hnn hil hg5 hbase HD4 HSL4 HBM4
  by_cases hn0 : nn = 0
  · have hnz : ((nn : Int) == 0) = true := by simp; omega
    have hnI : (nn : Int) = 0 := by omega
    go_wp2_with (first
      | (go_at_call 17; refine (rnodes_any W H _ N cm F (s : Int) _ (HSL5.out.gr hg6)).mono ?_; rintro e w7 ⟨⟨v7, rfl, ho7⟩, hg7⟩; rw [HL5.out, HNN.out] at ho7; obtain ⟨a7, k7, rfl, -⟩ := IlS.of_own ho7 HNN.out)
      | (go_at_call 22; refine (told14_any _).mono ?_; rintro e w6 ⟨rfl, hg6⟩; replace d1 := cell_gr d1 hg6; replace d2 := cell_gr d2 hg6; replace d3 := cell_gr d3 hg6))
    go_ret
    exact ⟨rfl, (HD5.out.more (hg6.trans hg7)).gr⟩
  · have hnz : ((nn : Int) == 0) = false := by simp; omega
    have hnI : ¬ (nn : Int) = 0 := by omega
    obtain ⟨k, hk⟩ : ∃ k, nn = k + 1 := ⟨nn - 1, by omega⟩
    have hwk : IntKind.i64.wrap ((nn : Int) - 1) = (k : Int) := by rw [wrapI (by omega)]; omega
    obtain ⟨iF, hiF⟩ : ∃ iF : Int → Nat, ∀ z, withinF z 0 (k : Int) = (iF z : Int) ∧ iF z < nn := ⟨fun z => (withinF z 0 (k : Int)).toNat, fun z => by have := within_bd z 0 (k : Int) (by omega); exact ⟨(Int.toNat_of_nonneg this.1).symm, by show (withinF z 0 (k : Int)).toNat < nn; omega⟩⟩
    have HW : Hid (∀ z u, Dr w5 u → Calls Tryz.prog 10 #[.int .i64 z, .int .i64 0, .int .i64 (k : Int)] u fun e w' => e = .returned (.int .i64 (iF z : Int)) ∧ Dr u w') := hide fun z u _ => by
      rw [← (hiF z).1]
      exact within_any z 0 (k : Int) u (by omega) (by omega) (by omega)
    obtain ⟨bl, ol, rfl, hBl, hcl⟩ := HIL5.out.at (by omega)
    have l1 := hcl (iF ca) (hiF ca).2
    have l2 := hcl (iF cb) (hiF cb).2
    have i1 : (iF ca : Int) < (nn : Int) := by have := (hiF ca).2; omega
    have i2 : (iF cb : Int) < (nn : Int) := by have := (hiF cb).2; omega
    have j1 : 0 ≤ (iF ca : Int) := by omega
    have j2 : 0 ≤ (iF cb : Int) := by omega
    generalize ((L.getD (iF ca) 0 : Nat) : Int) = p1 at l1
    generalize ((L.getD (iF cb) 0 : Nat) : Int) = q1 at l2
    clear hcl hk hiF d1 d2 d3 hBl
    go_wp2_with fail
    go_quiet ((go_at_call 10; refine Dr.quiet (HW.out _ _ ⟨_, rfl⟩)))
    have hgq : Gr w5 (w5.drewN nq) := (Gr.refl w5).drewN nq
    have HD6 := hide (HD5.out.more hgq)
    have HSL6 := hide (HSL5.out.gr hgq)
    have HBM6 := hide (row_gr HBM5.out hgq)
    have HOW6 := hide (own_gr HOW5.out hgq)
    generalize w5.drewN nq = w6 at *
    clear l1 l2 HW HD5 HSL5 HBM5 HIL5 HOW5 hgq i1 i2 j1 j2 hwk
    go_wp2_with fail
    refine (mDist_any HD6.out.ms HD6.out.gd p1 q1).mono ?_
    rintro e w7 ⟨rfl, hg7⟩
    obtain ⟨dd, hdd⟩ : ∃ dd, distF W H N F p1 q1 = dd := ⟨_, rfl⟩
    rw [hdd]
    have HDD := hide hdd
    have hst : KSt w w7 p q gp c v B B0 W H N cc F cnt base (some ⟨bl, ol, none⟩) nn cL L 0 :=
      ⟨F, 1, fun _ => 1, gm, cm, HD6.out.more hg7, row_gr HBM6.out hg7, HSL6.out.gr hg7, fun b e => by
        rcases e with e | e | e | e | e | e
        · exact HFA.out b (.inl e)
        · exact HFA.out b (.inr (.inl e))
        · exact HFA.out b (.inr (.inr (.inl e)))
        · exact HFA.out b (.inr (.inr (.inr (.inl e))))
        · exact HFA.out b (.inr (.inr (.inr (.inr e))))
        · omega, HCAP.out, own_gr HOW6.out hg7, by omega, by omega⟩
    clear hdd HD6 HSL6 HBM6 HOW6 hg7
    go_wp2_with fail
    go_loopw [23] (fun iv u => ∃ i : Nat, i ≤ 20 ∧ iv = .int .i64 i ∧ KSt w u p q gp c v B B0 W H N cc F cnt base (some ⟨bl, ol, none⟩) nn cL L i) (fun iv _ => 20 - (intOf iv).toNat)
    case atStart => exact ⟨0, by omega, rfl, hst⟩
    case round =>
      clear hst
      obtain ⟨i, hi20, rfl, hst⟩ := hrel
      by_cases hlt : i < nl ∧ i < 20
      · have hi1 : (i : Int) < (nl : Int) := by omega
        have hi2 : (i : Int) < 20 := by omega
        have hi0 : 0 ≤ (i : Int) := by omega
        obtain ⟨f2, ep, ver, gm2, cm2, hD, hbx, hsl, hfar, hcap, hown, he0, he1⟩ := hst
        obtain ⟨lb, lo, rfl, hlb, hlc⟩ := HL.out.at (by omega)
        have c1 := cell_gr (hlc i hlt.1).1 hD.gr
        have c2 := cell_gr (hlc i hlt.1).2 hD.gr
        obtain ⟨r1, r2, r3, -, -, -⟩ := row_cells hbx
        have hwN : IntKind.i64.wrap ((N : Int) - 1) = (N : Int) - 1 := wrapI (by omega)
        have hb1 := within_bd (lc i) 0 ((N : Int) - 1) (by omega)
        obtain ⟨kk, hkk⟩ : ∃ kk : Nat, withinF (lc i) 0 ((N : Int) - 1) = kk := ⟨(withinF (lc i) 0 ((N : Int) - 1)).toNat, by omega⟩
        have hkN : kk < N := by omega
        have hb2 := within_bd (lk i) 1 255 (by omega)
        obtain ⟨yy, hyy⟩ : ∃ yy, withinF (lk i) 1 255 = yy := ⟨_, rfl⟩
        rw [hyy] at hb2
        have HW1 : Hid (∀ u, Calls Tryz.prog 10 #[.int .i64 (lc i), .int .i64 0, .int .i64 ((N : Int) - 1)] u fun e w' => e = .returned (.int .i64 (kk : Int)) ∧ Dr u w') := hide fun u => by
          rw [← hkk]
          exact within_any _ _ _ u (by omega) (by omega) (by omega)
        have HW2 : Hid (∀ u, Calls Tryz.prog 10 #[.int .i64 (lk i), .int .i64 1, .int .i64 255] u fun e w' => e = .returned (.int .i64 yy) ∧ Dr u w') := hide fun u => by
          rw [← hyy]
          exact within_any _ _ _ u (by omega) (by omega) (by omega)
        have HD := hide hD
        have HBX := hide hbx
        have HSL := hide hsl
        have HFAR := hide hfar
        have HCP := hide hcap
        have HOWN := hide hown
        generalize lc i = z1 at *
        generalize lk i = z2 at *
        clear hlc hkk hyy hb1 hD hbx hsl hfar hcap hown hlb
        go_wp2_with fail
        go_quiet ((go_at_call 10; first | (with_reducible refine Dr.quiet (HW1.out _)) | (with_reducible refine Dr.quiet (HW2.out _))))
        have hgn : Gr wr (wr.drewN nq) := (Gr.refl wr).drewN nq
        go_wp2_with fail
        refine (duo_edit (HD.out.more hgn) kk yy hkN hb2 (by omega)).mono ?_
        rintro e w8 ⟨rfl, hD8, hk8⟩
        have hlt8 := HD.out.lt
        have hsl8 := hk8.sl (HSL.out.gr hgn) (fun e => HFAR.out gm2 (by unfold Of3 at e; omega) rfl)
        have hbx8 := hk8.row (row_gr HBX.out hgn) (b := B0) (fun e => by unfold Of3 at e; omega)
        have hown8 := own_kpB (own_gr HOWN.out hgn) hk8 (fun b e => by unfold Of3 at e; omega)
        have HD8 := hide hD8
        have HSL8 := hide hsl8
        have HBX8 := hide hbx8
        have HOWN8 := hide hown8
        obtain ⟨r1, r2, r3, -, -, -⟩ := row_cells hbx8
        have hwy : IntKind.u8.wrap yy = yy := by simp [IntKind.wrap, IntKind.bits, IntKind.signed]; omega
        clear hD8 hk8 hsl8 hbx8 hown8 HD HBX HSL HOWN hgn c1 c2 HW1 HW2
        go_wp2_with fail
        refine (edited_any W H _ N cm2 f2 kk yy w8 HSL8.out (by omega) hkN (by omega)).mono ?_
        rintro e w9 ⟨⟨g9, c9, rfl, q1, q2, q3, q4, hsl9⟩, hg9⟩
        have hbx9 := row_gr HBX8.out hg9
        have hown9 := own_gr HOWN8.out hg9
        have hD9 := HD8.out.more hg9
        obtain ⟨y1, y2, y3, y4, y5, y6⟩ := row_cells hbx9
        have hk := kp_set3 (S := fun b => b = B0) w9 (q := B0) (i := 0) (j := 1) (k := 2) rfl (.int .i64 W) (.int .i64 H) (.slice (some ⟨g9, 0, none⟩) N c9)
        have hlt9 := HBX8.out.lt
        have hge9 := hD9.ge
        have hp9 := hD9.ms.apart
        have hs9 := HD8.out.ms.apart
        have hst : KSt w (((w9.setCell ⟨B0, 0, none⟩ (.int .i64 W)).setCell ⟨B0, 1, none⟩ (.int .i64 H)).setCell ⟨B0, 2, none⟩ (.slice (some ⟨g9, 0, none⟩) N c9)) p q gp c v B B0 W H N cc F cnt base (some ⟨bl, ol, none⟩) nn cL L (i + 1) :=
          ⟨_, ep + 1, _, g9, c9, hD9.kpT hk (fun b e => e) hbx9 hBB hww, row_set3 hbx9, hk.sl hsl9 (by omega), fun b e => by omega, ⟨q1, q2⟩, own_kpB hown9 hk (fun b e => by omega), by omega, by omega⟩
        have HST := hide hst
        clear hst hk hD9 hown9 hbx9 HD8 HSL8 HBX8 HOWN8 hsl9
        go_wp2_with fail
        exact ⟨⟨i + 1, by omega, by go_num, HST.out⟩, by simp [intOf]; omega⟩
      · obtain ⟨f2, ep, ver, gm2, cm2, hD, hbx, hsl, hfar, hcap, hown, he0, he1⟩ := hst
        have HD := hide hD
        have HBX := hide hbx
        have HSL := hide hsl
        have HFAR := hide hfar
        have HOWN := hide hown
        clear hD hbx hsl hfar hcap hown he0 he1
        by_cases h1 : i < nl
        · have hi1 : (i : Int) < (nl : Int) := by omega
          have hi2 : ¬ (i : Int) < 20 := by omega
          clear hlt
          go_wp2_with fail
          refine (mnodes_any HD.out.ms (s : Int)).mono ?_
          rintro e w8 ⟨⟨v8, rfl, ho8⟩, hg8⟩
          rw [HL5.out, HNN.out] at ho8
          obtain ⟨a8, k8, rfl, hil8⟩ := IlS.of_own ho8 HNN.out
          have hilL := IlS.own (own_gr HOWN.out hg8) HNN.out
          clear ho8
          go_wp2_with fail
          refine (ints_same _ _ nn _ _ _ _ hil8.sli hilL.sli (by omega)).mono ?_
          rintro e w9 ⟨rfl, hd9⟩
          have hg9 := hg8.trans hd9.gr
          have HD9 := hide (HD.out.more hg9)
          clear hil8 hilL hg8 hd9
          go_wp2_with fail
          refine (mDist_any HD9.out.ms HD9.out.gd p1 q1).mono ?_
          rintro e w10 ⟨rfl, hg10⟩
          rw [HDD.out]
          have hg := hg9.trans hg10
          have HD10 := hide (HD.out.more hg)
          have HSL10 := hide (HSL.out.gr hg)
          have HBX10 := hide (row_gr HBX.out hg)
          have HMAY := hide HD.out.gd.may
          clear HD9 HD HSL HBX HOWN hg9 hg10 hg
          have hdn : (dd != dd) = false := by simp
          go_wp2_with fail
          refine (duo_rebuild HD10.out (by omega)).mono ?_
          rintro e w11 ⟨rfl, hD11, hk11⟩
          have HSL11 := hide (hk11.sl HSL10.out (fun e => HFAR.out gm2 (by omega) rfl))
          have hbx11 := hk11.row HBX10.out (b := B0) (fun e => by omega)
          have HD11 := hide hD11
          have HBX11 := hide hbx11
          obtain ⟨d1, d2, d3, -, -, -⟩ := row_cells hbx11
          have hLb : (nodesL W H N f2 (s : Int)).length ≤ 1000000 := by
            have h62 : (nodesL W H N f2 (s : Int)).length ≤ (cellsL W H (s : Int)).length := by unfold nodesL; exact List.length_filter_le _ _
            omega
          have HLB := hide hLb
          clear hD11 hk11 hbx11 HD10 HSL10 HBX10 hLb
          go_wp2_with fail
          go_region_held3 (fun z => z.cell? ⟨B0, 0, none⟩ = some (.int .i64 W) ∧ z.cell? ⟨B0, 1, none⟩ = some (.int .i64 H) ∧ z.cell? ⟨B0, 2, none⟩ = some (.slice (some ⟨gm2, 0, none⟩) N cm2) ∧ Gr w11 z) ((refine keepG ⟨d1, d2, d3⟩ ?_; exact (by (repeat (first | (with_reducible exact Gr.refl _) | (with_reducible assumption) | (with_reducible refine Gr.alloc ?_ _) | (with_reducible refine Gr.drew ?_) | (with_reducible refine Gr.set ?_ (by dsimp only; omega) _) | (with_reducible refine Gr.trans ?_ (by with_reducible assumption)))); first | done | fail))) (first
            | (go_at_call 22; refine (told14_any _).mono ?_; rintro e x0 ⟨rfl, hx0⟩)
            | (go_at_call 11; have hS := ‹_ ∧ _ ∧ _ ∧ Gr w11 _›; refine (mnodes_any (HD11.out.more hS.2.2.2).ms (s : Int)).mono ?_; rintro e x1 ⟨⟨y1, rfl, hy1⟩, hx1⟩; obtain ⟨al1, cl1, rfl, hil1⟩ := IlS.slot hy1)
            | (go_at_call 17; have hS := ‹_ ∧ _ ∧ _ ∧ Gr w11 _›; refine (rnodes_any W H _ N cm2 f2 (s : Int) _ (HSL11.out.gr hS.2.2.2)).mono ?_; rintro e x2 ⟨⟨y2, rfl, hy2⟩, hx2⟩; obtain ⟨al2, cl2, rfl, hil2⟩ := IlS.slot hy2; have hil12 := hil1.gr hx2)
            | (go_at_call 18; refine (ints_same _ _ _ _ _ _ _ hil12.sli hil2.sli HLB.out).mono ?_; rintro e x3 ⟨rfl, hd3⟩; have hx3 := hd3.gr)
            | (go_at_call 13; have hS := ‹_ ∧ _ ∧ _ ∧ Gr w11 _›; refine (mDist_any (HD11.out.more hS.2.2.2).ms (HD11.out.more hS.2.2.2).gd p1 q1).mono ?_; rintro e x4 ⟨rfl, hx4⟩)
            | (go_at_call 19; have hS := ‹_ ∧ _ ∧ _ ∧ Gr w11 _›; refine (rdist_any W H _ N cm2 f2 p1 q1 _ (HSL11.out.gr hS.2.2.2) HMAY.out).mono ?_; rintro e x5 ⟨rfl, hx5⟩)
            | (go_at_call 27; have hS := ‹_ ∧ _ ∧ _ ∧ Gr w11 _›; refine (gmap_any (HD11.out.more hS.2.2.2).gd).mono ?_; rintro e x6 ⟨⟨g6, k6, rfl, ho6⟩, hx6⟩; have hsl6 := ho6.sl.2.2.2.2)
            | (go_at_call 26; have hS := ‹_ ∧ _ ∧ _ ∧ Gr w11 _›; refine (rsameM_any W H W H _ _ N _ N _ f2 f2 _ hsl6 (HSL11.out.gr hS.2.2.2)).mono ?_; rintro e x7 ⟨rfl, hx7⟩; rw [sameTB_rfl]))
          have hgx : Gr w11 x7 := (by (repeat (first | (with_reducible exact Gr.refl _) | (with_reducible assumption) | (with_reducible refine Gr.alloc ?_ _) | (with_reducible refine Gr.drew ?_) | (with_reducible refine Gr.set ?_ (by dsimp only; omega) _) | (with_reducible refine Gr.trans ?_ (by with_reducible assumption)))); first | done | fail)
          go_wp2_with fail
          go_ret
          exact ⟨rfl, (HD11.out.more hgx).gr⟩
        · have hi1 : ¬ (i : Int) < (nl : Int) := by omega
          clear hlt
          go_wp2_with fail
          refine (mnodes_any HD.out.ms (s : Int)).mono ?_
          rintro e w8 ⟨⟨v8, rfl, ho8⟩, hg8⟩
          rw [HL5.out, HNN.out] at ho8
          obtain ⟨a8, k8, rfl, hil8⟩ := IlS.of_own ho8 HNN.out
          have hilL := IlS.own (own_gr HOWN.out hg8) HNN.out
          clear ho8
          go_wp2_with fail
          refine (ints_same _ _ nn _ _ _ _ hil8.sli hilL.sli (by omega)).mono ?_
          rintro e w9 ⟨rfl, hd9⟩
          have hg9 := hg8.trans hd9.gr
          have HD9 := hide (HD.out.more hg9)
          clear hil8 hilL hg8 hd9
          go_wp2_with fail
          refine (mDist_any HD9.out.ms HD9.out.gd p1 q1).mono ?_
          rintro e w10 ⟨rfl, hg10⟩
          rw [HDD.out]
          have hg := hg9.trans hg10
          have HD10 := hide (HD.out.more hg)
          have HSL10 := hide (HSL.out.gr hg)
          have HBX10 := hide (row_gr HBX.out hg)
          have HMAY := hide HD.out.gd.may
          clear HD9 HD HSL HBX HOWN hg9 hg10 hg
          have hdn : (dd != dd) = false := by simp
          go_wp2_with fail
          refine (duo_rebuild HD10.out (by omega)).mono ?_
          rintro e w11 ⟨rfl, hD11, hk11⟩
          have HSL11 := hide (hk11.sl HSL10.out (fun e => HFAR.out gm2 (by omega) rfl))
          have hbx11 := hk11.row HBX10.out (b := B0) (fun e => by omega)
          have HD11 := hide hD11
          have HBX11 := hide hbx11
          obtain ⟨d1, d2, d3, -, -, -⟩ := row_cells hbx11
          have hLb : (nodesL W H N f2 (s : Int)).length ≤ 1000000 := by
            have h62 : (nodesL W H N f2 (s : Int)).length ≤ (cellsL W H (s : Int)).length := by unfold nodesL; exact List.length_filter_le _ _
            omega
          have HLB := hide hLb
          clear hD11 hk11 hbx11 HD10 HSL10 HBX10 hLb
          go_wp2_with fail
          go_region_held3 (fun z => z.cell? ⟨B0, 0, none⟩ = some (.int .i64 W) ∧ z.cell? ⟨B0, 1, none⟩ = some (.int .i64 H) ∧ z.cell? ⟨B0, 2, none⟩ = some (.slice (some ⟨gm2, 0, none⟩) N cm2) ∧ Gr w11 z) ((refine keepG ⟨d1, d2, d3⟩ ?_; exact (by (repeat (first | (with_reducible exact Gr.refl _) | (with_reducible assumption) | (with_reducible refine Gr.alloc ?_ _) | (with_reducible refine Gr.drew ?_) | (with_reducible refine Gr.set ?_ (by dsimp only; omega) _) | (with_reducible refine Gr.trans ?_ (by with_reducible assumption)))); first | done | fail))) (first
            | (go_at_call 22; refine (told14_any _).mono ?_; rintro e x0 ⟨rfl, hx0⟩)
            | (go_at_call 11; have hS := ‹_ ∧ _ ∧ _ ∧ Gr w11 _›; refine (mnodes_any (HD11.out.more hS.2.2.2).ms (s : Int)).mono ?_; rintro e x1 ⟨⟨y1, rfl, hy1⟩, hx1⟩; obtain ⟨al1, cl1, rfl, hil1⟩ := IlS.slot hy1)
            | (go_at_call 17; have hS := ‹_ ∧ _ ∧ _ ∧ Gr w11 _›; refine (rnodes_any W H _ N cm2 f2 (s : Int) _ (HSL11.out.gr hS.2.2.2)).mono ?_; rintro e x2 ⟨⟨y2, rfl, hy2⟩, hx2⟩; obtain ⟨al2, cl2, rfl, hil2⟩ := IlS.slot hy2; have hil12 := hil1.gr hx2)
            | (go_at_call 18; refine (ints_same _ _ _ _ _ _ _ hil12.sli hil2.sli HLB.out).mono ?_; rintro e x3 ⟨rfl, hd3⟩; have hx3 := hd3.gr)
            | (go_at_call 13; have hS := ‹_ ∧ _ ∧ _ ∧ Gr w11 _›; refine (mDist_any (HD11.out.more hS.2.2.2).ms (HD11.out.more hS.2.2.2).gd p1 q1).mono ?_; rintro e x4 ⟨rfl, hx4⟩)
            | (go_at_call 19; have hS := ‹_ ∧ _ ∧ _ ∧ Gr w11 _›; refine (rdist_any W H _ N cm2 f2 p1 q1 _ (HSL11.out.gr hS.2.2.2) HMAY.out).mono ?_; rintro e x5 ⟨rfl, hx5⟩)
            | (go_at_call 27; have hS := ‹_ ∧ _ ∧ _ ∧ Gr w11 _›; refine (gmap_any (HD11.out.more hS.2.2.2).gd).mono ?_; rintro e x6 ⟨⟨g6, k6, rfl, ho6⟩, hx6⟩; have hsl6 := ho6.sl.2.2.2.2)
            | (go_at_call 26; have hS := ‹_ ∧ _ ∧ _ ∧ Gr w11 _›; refine (rsameM_any W H W H _ _ N _ N _ f2 f2 _ hsl6 (HSL11.out.gr hS.2.2.2)).mono ?_; rintro e x7 ⟨rfl, hx7⟩; rw [sameTB_rfl]))
          have hgx : Gr w11 x7 := (by (repeat (first | (with_reducible exact Gr.refl _) | (with_reducible assumption) | (with_reducible refine Gr.alloc ?_ _) | (with_reducible refine Gr.drew ?_) | (with_reducible refine Gr.set ?_ (by dsimp only; omega) _) | (with_reducible refine Gr.trans ?_ (by with_reducible assumption)))); first | done | fail)
          go_wp2_with fail
          go_ret
          exact ⟨rfl, (HD11.out.more hgx).gr⟩
end Go.Proofs.YtgbadbkipaccgaaGreat
