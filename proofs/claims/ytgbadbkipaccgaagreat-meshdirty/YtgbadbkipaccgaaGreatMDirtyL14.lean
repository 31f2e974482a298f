/- MeshDirty: an edit makes its own sector dirty, no other one; each is rebuilt once. No condition. -/
import Derived.Test.YtgbadbkipaccgaaGreatMBuilt14
import Derived.Test.YtgbadbkipaccgaaGreatMRows14
namespace Go.Proofs.YtgbadbkipaccgaaGreat
open Go.RowKit
set_option maxRecDepth 20000

/-- a row of bools at V: which sectors are dirty -/
def DRow (u : World) (V C : Nat) (mv ver : Nat → Int) : Prop := u.rowIs V 4 C (fun s => .bool (decide (mv s ≠ ver s)))
/-- the statement's state -/
def DSt (w u : World) (p q gp c v B B0 V : Nat) (W H : Int) (N cc gm cm many : Nat) (cnt : Int) (i : Nat) : Prop :=
  ∃ (f : Nat → Int) (ep : Int) (ver S mv : Nat → Int) (w1 : World), Duo w u p q gp c v B W H N cc f ep ver S mv cnt ∧ Ms w1 p q gp B W H N S mv cnt ∧ Kp (Of3 gp c v) w1 u ∧ (w1.heap.size ≤ V ∧ B ≤ V ∧ w.heap.size ≤ V ∧ V ≠ B0) ∧
    DRow u V (cntS W H) mv ver ∧ u.rowIs B0 24 3 (tri (.int .i64 W) (.int .i64 H) (.slice (some ⟨gm, 0, none⟩) N cm)) ∧ many = (dirL mv ver (cntS W H)).length ∧ 0 ≤ ep ∧ ep ≤ 1 + i
section
variable {w u u' : World} {p q gp c v B B0 V : Nat} {W H : Int} {N cc gm cm many : Nat} {cnt : Int} {i : Nat}
theorem DSt.more (h : DSt w u p q gp c v B B0 V W H N cc gm cm many cnt i) (g : Gr u u') : DSt w u' p q gp c v B B0 V W H N cc gm cm many cnt i := by
  obtain ⟨f, ep, ver, S, mv, w1, a1, a2, a3, a4, a5, a6, a7, a8, a9⟩ := h
  exact ⟨f, ep, ver, S, mv, w1, a1.more g, a2, a3.grb g, a4, row_gr a5 g, row_gr a6 g, a7, a8, a9⟩
theorem DSt.next (h : DSt w u p q gp c v B B0 V W H N cc gm cm many cnt i) : DSt w u p q gp c v B B0 V W H N cc gm cm many cnt (i + 1) := by
  obtain ⟨f, ep, ver, S, mv, w1, a1, a2, a3, a4, a5, a6, a7, a8, a9⟩ := h
  exact ⟨f, ep, ver, S, mv, w1, a1, a2, a3, a4, a5, a6, a7, a8, by omega⟩
/-- a store into the row -/
theorem Duo.put {f : Nat → Int} {ep : Int} {ver S mv : Nat → Int} {w1 : World} (h : Duo w u p q gp c v B W H N cc f ep ver S mv cnt) (hM : Ms w1 p q gp B W H N S mv cnt) (hk : Kp (Of3 gp c v) w1 u) (hV : w1.heap.size ≤ V ∧ B ≤ V ∧ w.heap.size ≤ V) (s : Nat) (x : Value) :
    Duo w (u.setCell ⟨V, s, none⟩ x) p q gp c v B W H N cc f ep ver S mv cnt ∧ Kp (Of3 gp c v) w1 (u.setCell ⟨V, s, none⟩ x) := by
  have h1 := h.lt
  have hk' : Kp (Of3 gp c v) w1 (u.setCell ⟨V, s, none⟩ x) := hk.set (p := ⟨V, s, none⟩) (.inr hV.1) x
  have ho := Kp.one u V s x
  refine ⟨⟨hM.kp hk' (fun b e => by unfold Of3 at e; omega) (h.apt p (.inl rfl)) (h.apt q (.inr rfl)), h.gd.kp ho (by omega) (by omega) (by omega), h.lt, h.ge, h.apt, h.gr.set (p := ⟨V, s, none⟩) hV.2.2 x, h.same, h.low⟩, hk'⟩
end

/-- what an edit does, or doesn't -/
theorem edit_two {w u : World} {p q gp c v B : Nat} {W H : Int} {N cc : Nat} {f : Nat → Int} {ep : Int} {ver S mv : Nat → Int} {cnt : Int} (h : Duo w u p q gp c v B W H N cc f ep ver S mv cnt) (k : Nat) (y : Int) (hk : k < N) (hy : 0 ≤ y ∧ y ≤ 255) (he : 0 ≤ ep ∧ ep ≤ 4611686018427387904) :
    Calls Tryz.prog 23 #[.pointer (some ⟨gp, 0, none⟩), .int .i64 k, .int .i64 y] u fun e u' => (∃ code : Int, e = .returned (.int .i64 code) ∧ ((code = 0 ∧ Duo w u' p q gp c v B W H N cc (putF f k y) (ep + 1) (putF ver (sectorF W k).toNat (ep + 1)) S mv cnt ∧ Kp (Of3 gp c v) u u') ∨ (code = 8 ∧ Gr u u'))) := by
  by_cases h0 : y = 0
  · have hc : ecF N k y = 8 := by unfold ecF; rw [if_pos ⟨by omega, by omega⟩, if_neg (by omega)]
    refine (gedit_no h.gd k y (by rw [hc]; omega)).mono ?_
    rintro e u' ⟨rfl, hg⟩
    rw [hc]
    exact ⟨8, rfl, .inr ⟨rfl, hg⟩⟩
  · refine (duo_edit h k y hk (by omega) he).mono ?_
    rintro e u' ⟨rfl, hd, hkp⟩
    exact ⟨0, rfl, .inl ⟨rfl, hd, hkp⟩⟩

set_option maxHeartbeats 4000000 in
theorem meshDirty_any (x y : Int) (a : Option Addr) (n cap : Nat) (f : Nat → Int) (al : Option Addr) (nl cl : Nat) (lc lk : Nat → Int) (ab : Option Addr) (nb cb : Nat) (zb : Nat → Bool) (w : World) (h : Sl w a n f) (hn : n ≤ maxLen) (hl : LayS w al nl lc lk) (hnl : nl ≤ maxLen) (hz : BoS w ab nb zb) (_hnb : nb ≤ maxLen) :
    Calls Tryz.prog 4 #[.int .i64 x, .int .i64 y, .slice a n cap, .slice al nl cl, .slice ab nb cb] w fun e w' => e = .returned (.bool true) ∧ Gr w w' := by
  have HL := hide hl
  have HZ := hide hz
  unfold maxLen at hnl
  clear hl hz
  go_enter Tryz.func4, Tryz.ntmps4
  go_wp2_with fail
  refine (built_any x y a n cap f w h hn).mono ?_
  rintro e w1 ⟨W, H, N, gm, cm, F, p, q, gp, c, v, B, cc, rfl, hb⟩
  have hga : Gr w1 (w1.alloc (.cells #[.int .i64 W, .int .i64 H, .slice (some ⟨gm, 0, none⟩) N cm] 24)) := (Gr.refl w1).alloc _
  have hBm := tri_alloc w1 (.int .i64 W) (.int .i64 H) (.slice (some ⟨gm, 0, none⟩) N cm) 24
  obtain ⟨-, -, -, hmay, hbig, hduo⟩ := hb
  have hD := hduo.more hga
  have hBB : B ≤ w1.heap.size := hduo.ms.apart.2.2.2
  have hww : w.heap.size ≤ w1.heap.size := hduo.gr.size
  obtain ⟨hmb, hNm, -⟩ := (mayM_iff _ _ _ _).1 hmay
  have hcn := (cntS_eq hmb).2
  have hci := cntS_int W H
  have HNM := hide hNm
  clear hduo hmay h hn hNm
  go_wp2_with fail
  generalize (w1.alloc (.cells #[.int .i64 W, .int .i64 H, .slice (some ⟨gm, 0, none⟩) N cm] 24)) = u1 at *
  obtain ⟨B0, hB0⟩ : ∃ B0, w1.heap.size = B0 := ⟨_, rfl⟩
  rw [hB0] at hBm hBB hww ⊢
  obtain ⟨c1, c2, c3, -, -, -⟩ := row_cells hBm
  clear hga hB0
  go_wp2_with fail
  refine (rcount_any W H _).mono ?_
  rintro e w3 ⟨rfl, hd3⟩
  rw [← hci]
  replace hBm := row_gr hBm hd3.gr
  have HD3 := hide (hD.more hd3.gr)
  have HCI := hide hci
  clear hD hci c1 c2 c3 hd3
  obtain ⟨C, hC⟩ : ∃ C, cntS W H = C := ⟨_, rfl⟩
  rw [hC] at hcn ⊢
  have HC := hide hC
  have hmk := run_make_row' (P := Tryz.prog) 47 4 (.bool false) 1 Tryz.underlying47 info_bool rfl .i64 .i64 C (by omega) (by omega)
  have hR := World.rowIs_made w3 (.bool false) C 4
  have hg3 : Gr w3 (w3.alloc (.cells (madeCells #[.bool false] C) 4)) := (Gr.refl w3).alloc _
  have hlt3 := hBm.lt
  replace hBm := row_gr hBm hg3
  clear hC
  go_wp2_with fail
  generalize (w3.alloc (.cells (madeCells #[.bool false] C) 4)) = w4 at *
  obtain ⟨V, hV⟩ : ∃ V, w3.heap.size = V := ⟨_, rfl⟩
  rw [hV] at hR hlt3 ⊢
  have HV3 := hide hV
  have HG3 := hide hg3
  clear hmk hg3 hV
  go_loopw [17] (fun i u => ∃ k : Nat, k ≤ C ∧ i = .int .i64 k ∧ u.rowIs V 4 C (fun j => .bool (decide (j < k))) ∧ u.rowIs B0 24 3 (tri (.int .i64 W) (.int .i64 H) (.slice (some ⟨gm, 0, none⟩) N cm)) ∧ Gr w3 u) (fun i _ => C - (intOf i).toNat)
  case atStart => exact ⟨0, Nat.zero_le _, rfl, World.rowIs.congr hR (fun i _ => by simp), hBm, HG3.out⟩
  case round =>
    clear hR hBm
    obtain ⟨k, hk, rfl, hrow, hbx, hgr⟩ := hrel
    by_cases hlt : k < C
    · have hkI : (k : Int) < (C : Int) := by omega
      have hk0 : 0 ≤ (k : Int) := by omega
      have y1 := hrow.cell hlt
      have y2 := hrow.frozen k
      have HR := hide hrow
      have HX := hide hbx
      have HGR := hide hgr
      clear hrow hbx hgr
      go_wp2_with fail
      exact ⟨⟨k + 1, by omega, by go_num, World.rowIs.congr (HR.out.set k (.bool true)) (fun i _ => by
        by_cases e : i = k
        · rw [if_pos e]; simp; omega
        · rw [if_neg e]
          congr 1
          rw [Bool.eq_iff_iff, decide_eq_true_iff, decide_eq_true_iff]
          omega), HX.out.setOther (a := ⟨V, k, none⟩) (by show B0 ≠ V; omega) _, HGR.out.set (p := ⟨V, k, none⟩) (by have := HV3.out; simp only; omega) _⟩, by simp [intOf]; omega⟩
    · obtain rfl : k = C := by omega
      generalize wr = w5 at *
      have hst : DSt w w5 p q gp c v B B0 V W H N cc gm cm k 0 0 := by
        have hv := HV3.out
        refine ⟨F, 1, fun _ => 1, fun _ => 255, fun _ => 0, w3, HD3.out.more hgr, HD3.out.ms, hgr.kp, ⟨by omega, by omega, by omega, by omega⟩, ?_, hbx, ?_, by omega, by omega⟩
        · unfold DRow
          rw [HC.out]
          exact World.rowIs.congr hrow (fun i hi => by simp [hi])
        · rw [dir_all (fun s _ => by omega)]
          exact HC.out.symm
      clear hrow hbx hgr HG3 HD3
      go_wp2_with fail
      have hVV : B ≤ B0 := hBB
      go_loopw [15, 16, 18, 19] (fun d m ct iv u => ∃ (i V many : Nat) (cnt : Int), i ≤ 30 ∧ d = .slice (some ⟨V, 0, none⟩) k k ∧ m = .int .i64 many ∧ ct = .int .u64 cnt ∧ iv = .int .i64 i ∧ 0 ≤ cnt ∧ cnt ≤ i * 4096 ∧ DSt w u p q gp c v B B0 V W H N cc gm cm many cnt i) (fun _ _ _ iv _ => 30 - (intOf iv).toNat)
      case atStart => exact ⟨0, V, k, 0, by omega, rfl, rfl, rfl, rfl, by omega, by omega, hst⟩
      case round =>
        clear hst
        obtain ⟨i, V', many, cnt, hi30, rfl, rfl, rfl, rfl, hc0, hc1, hst⟩ := hrel
        by_cases hlt : i < nl ∧ i < 30
        · have hi1 : (i : Int) < (nl : Int) := by omega
          have hi2 : (i : Int) < 30 := by omega
          have hi0 : 0 ≤ (i : Int) := by omega
          obtain ⟨f2, ep, ver, S, mv, wm, hD, hMs, hkp, hVs, hrow, hbx, hmany, he0, he1⟩ := hst
          obtain ⟨lb, lo, rfl, hlb, hlc⟩ := HL.out.at (by omega)
          have c1 := cell_gr (hlc i hlt.1).1 hD.gr
          have c2 := cell_gr (hlc i hlt.1).2 hD.gr
          obtain ⟨r1, r2, r3, -, -, -⟩ := row_cells hbx
          have hwN : IntKind.i64.wrap ((N : Int) - 1) = (N : Int) - 1 := wrapI (by omega)
          have hb1 := within_bd (lc i) 0 ((N : Int) - 1) (by omega)
          obtain ⟨kk, hkk⟩ : ∃ kk : Nat, withinF (lc i) 0 ((N : Int) - 1) = kk := ⟨(withinF (lc i) 0 ((N : Int) - 1)).toNat, by omega⟩
          have hkN : kk < N := by omega
          have hb2 := within_bd (lk i) 0 255 (by omega)
          obtain ⟨yy, hyy⟩ : ∃ yy, withinF (lk i) 0 255 = yy := ⟨_, rfl⟩
          rw [hyy] at hb2
          have HW1 : Hid (∀ u, Dr wr u → Calls Tryz.prog 10 #[.int .i64 (lc i), .int .i64 0, .int .i64 ((N : Int) - 1)] u fun e w' => e = .returned (.int .i64 (kk : Int)) ∧ Dr u w') := hide fun u _ => by
            rw [← hkk]
            exact within_any _ _ _ u (by omega) (by omega) (by omega)
          have HW2 : Hid (∀ u, Calls Tryz.prog 10 #[.int .i64 (lk i), .int .i64 0, .int .i64 255] u fun e w' => e = .returned (.int .i64 yy) ∧ Dr u w') := hide fun u => by
            rw [← hyy]
            exact within_any _ _ _ u (by omega) (by omega) (by omega)
          have HD := hide hD
          have HMS := hide hMs
          have HKP := hide hkp
          have HVS := hide hVs
          have HROW := hide hrow
          have HBX := hide hbx
          have HMANY := hide hmany
          generalize lc i = z1 at *
          generalize lk i = z2 at *
          clear hlc hkk hyy hb1 hD hMs hkp hVs hrow hbx hmany hlb
          go_wp2_with fail
          go_quiet ((go_at_call 10; refine Dr.quiet (HW1.out _ ⟨_, rfl⟩)))
          have hgn : Gr wr (wr.drewN nq) := (Gr.refl wr).drewN nq
          replace c2 := cell_gr c2 hgn
          go_upto_if 79 with (first | (go_at_call 23; refine (edit_two (HD.out.more (hgn.trans hd6.gr)) kk yy hkN hb2 (by omega)).mono ?_; rintro e w7 ⟨code, rfl, hcase⟩) | (go_at_call 10; refine (HW2.out _).mono ?_; rintro e w6 ⟨rfl, hd6⟩))
          have hg6 := hgn.trans hd6.gr
          have HCASE := hide hcase
          clear hcase r1 r2 r3 c1 c2 hgn hd6
          go_cut [16, 21] from 80 to 102 (fun m2 _ u => ∃ many2 : Nat, m2 = .int .i64 many2 ∧ many2 ≤ 4096 ∧ DSt w u p q gp c v B B0 V' W H N cc gm cm many2 cnt (i + 1))
          case first =>
            have hml : many ≤ 4096 := by
              have h1 := dir_len mv ver (cntS W H)
              have h2 := HMANY.out
              have h3 := HC.out
              omega
            have hlt9 := HD.out.lt
            have hvs9 := HVS.out
            rcases HCASE.out with ⟨rfl, hD7, hk7⟩ | ⟨rfl, hg7⟩
            · obtain ⟨s, l, hs, hl, es, -, -⟩ := cell_at hmb HNM.out hkN
              rw [es, Int.toNat_natCast] at hD7
              have hcell : isCellB W H (kk : Int) = true := by
                have hn2 := HNM.out
                rw [isCellB_iff]
                exact ⟨hmb, by omega, by omega⟩
              have HSEC := hide (fun u => sector_any W H (kk : Int) u)
              rw [secF_yes hcell, es] at HSEC
              have hrow7 : DRow w7 V' (cntS W H) mv ver := hk7.row (row_gr HROW.out hg6) (fun e => by unfold Of3 at e; omega)
              have hbx7 := hk7.row (row_gr HBX.out hg6) (b := B0) (fun e => by unfold Of3 at e; omega)
              obtain ⟨r1, r2, r3, -, -, -⟩ := row_cells hbx7
              have hkk7 := (HKP.out.grb hg6).trans hk7
              have hs7 : s < cntS W H := hs
              rw [HC.out] at hs
              have hsI : (s : Int) < (k : Int) := by omega
              have hs0 : 0 ≤ (s : Int) := by omega
              have hlow := (HD.out.low s hs7).1
              have hmm := many_more (P := fun t => decide (mv t ≠ ver t)) (P' := fun t => decide (mv t ≠ putF ver s (ep + 1) t)) (s := s) (fun t ht => by unfold putF; rw [if_neg ht]) (by unfold putF; rw [if_pos rfl]; simp; omega) (cntS W H)
              have HMM := hide hmm
              have HD7 := hide hD7
              have HROW7 := hide hrow7
              have HBX7 := hide hbx7
              have HKK7 := hide hkk7
              have fin : ∀ (w8 : World) (many2 : Nat), Gr w7 w8 → many2 = (dirL mv (putF ver s (ep + 1)) (cntS W H)).length → DSt w (w8.setCell ⟨V', s, none⟩ (.bool true)) p q gp c v B B0 V' W H N cc gm cm many2 cnt (i + 1) := fun w8 many2 hg8 hm8 => by
                obtain ⟨a1, a2⟩ := Duo.put (HD7.out.more hg8) HMS.out (HKK7.out.grb hg8) ⟨hvs9.1, hvs9.2.1, hvs9.2.2.1⟩ s (.bool true)
                refine ⟨_, ep + 1, _, S, mv, wm, a1, HMS.out, a2, hvs9, World.rowIs.congr ((row_gr HROW7.out hg8).set s (.bool true)) (fun t ht => ?_), (row_gr HBX7.out hg8).setOther (a := ⟨V', s, none⟩) (by show B0 ≠ V'; omega) _, hm8, by omega, by omega⟩
                unfold putF
                by_cases e : t = s
                · rw [if_pos e, if_pos e]
                  subst e
                  simp
                  omega
                · rw [if_neg e, if_neg e]
              have HFIN := hide fin
              have y1 := hrow7.cell hs7
              have y2 := World.rowIs.frozen hrow7 s
              clear hD7 hrow7 hbx7 hkk7 hk7 hmm fin hl es hcell
              cases hbv : decide (mv s ≠ ver s)
              · rw [hbv] at y1
                go_wp2_with (go_at_call 24; refine (HSEC.out _).mono ?_; rintro e w8 ⟨rfl, hd8⟩; replace y1 := cell_gr y1 hd8.gr; have y2 := World.rowIs.frozen (row_gr HROW7.out hd8.gr) s)
                go_meet
                have e1 : many + 1 = (dirL mv (putF ver s (ep + 1)) (cntS W H)).length := by
                  have := HMM.out
                  have h2 := HMANY.out
                  unfold dirL at h2 ⊢
                  rw [this, if_pos ⟨hs7, hbv⟩, ← h2]
                have e2 := dir_len mv (putF ver s (ep + 1)) (cntS W H)
                have e3 := HC.out
                exact ⟨many + 1, by go_num, by omega, HFIN.out w8 _ hd8.gr e1⟩
              · rw [hbv] at y1
                go_wp2_with (go_at_call 24; refine (HSEC.out _).mono ?_; rintro e w8 ⟨rfl, hd8⟩; replace y1 := cell_gr y1 hd8.gr; have y2 := World.rowIs.frozen (row_gr HROW7.out hd8.gr) s)
                go_meet
                refine ⟨many, rfl, hml, HFIN.out w8 _ hd8.gr ?_⟩
                have := HMM.out
                have h2 := HMANY.out
                unfold dirL at h2 ⊢
                rw [this, if_neg (fun z => by rw [hbv] at z; cases z.2), ← h2, Nat.add_zero]
            · have hg67 := hg6.trans hg7
              have hst : DSt w w7 p q gp c v B B0 V' W H N cc gm cm many cnt (i + 1) := DSt.next ⟨f2, ep, ver, S, mv, wm, HD.out.more hg67, HMS.out, HKP.out.grb hg67, HVS.out, row_gr HROW.out hg67, row_gr HBX.out hg67, HMANY.out, he0, he1⟩
              go_wp2_with fail
              go_meet
              exact ⟨many, rfl, hml, hst⟩
          case rest =>
            clear HCASE HD HMS HKP HVS HROW HBX HMANY HW1 HW2 hg6 hb2 hkN he0 he1 hlt
            obtain ⟨many2, rfl, hm2, hst⟩ := hcut
            obtain ⟨f3, ep3, ver3, S3, mv3, wm3, hD, hMs, hkp, hVs, hrow, hbx, hmany, he0, he1⟩ := hst
            have HD := hide hD
            have HMS := hide hMs
            have HKP := hide hkp
            have HVS := hide hVs
            have HROW := hide hrow
            have HBX := hide hbx
            have HMANY := hide hmany
            clear hD hMs hkp hVs hrow hbx hmany
            go_wp2_with fail
            refine (mdirty_any HD.out.ms HD.out.gd).mono ?_
            rintro e w9 ⟨⟨v9, rfl, ho9⟩, hg9⟩
            obtain ⟨D, hDD⟩ : ∃ D, dirL mv3 ver3 (cntS W H) = D := ⟨_, rfl⟩
            have hDm : ∀ s, s ∈ D → s < cntS W H ∧ mv3 s ≠ ver3 s := fun s hs => by rw [← hDD] at hs; exact dir_mem.1 hs
            have hDr := dir_rise mv3 ver3 (cntS W H)
            have hDl : D.length = many2 := by rw [← hDD]; exact HMANY.out.symm
            rw [hDD] at ho9 hDr
            rw [hDl] at ho9
            obtain ⟨a9, k9, rfl, hil⟩ := IlS.of_own ho9 hDl
            have HIL := hide hil
            have HDM := hide hDm
            have HDR := hide hDr
            have HDL := hide hDl
            have HDD := hide hDD
            clear hil hDm hDr hDl hDD ho9
            go_wp2_with fail
            go_loopw [23] (fun tv u => ∃ t : Nat, t ≤ many2 ∧ tv = .int .i64 t ∧ Dr w9 u) (fun tv _ => many2 - (intOf tv).toNat)
            case atStart => exact ⟨0, Nat.zero_le _, rfl, Dr.refl _⟩
            case round =>
              obtain ⟨t, ht, rfl, hdr⟩ := hrel
              by_cases htl : t < many2
              · have htI : (t : Int) < (many2 : Int) := by omega
                have ht0 : 0 ≤ (t : Int) := by omega
                obtain ⟨b9, o9, rfl, hB9, hc9⟩ := HIL.out.at (by omega)
                obtain ⟨xx, hxx, hxe, -⟩ := ndI_mem (L := D) (i := t) (by rw [HDL.out]; exact htl)
                obtain ⟨hxc, hxd⟩ := HDM.out xx hxx
                have ck := cell_gr (hc9 t htl) hdr.gr
                rw [show ((D.getD t 0 : Nat) : Int) = (xx : Int) from hxe] at ck
                have y1 := (row_gr HROW.out (hg9.trans hdr.gr)).cell hxc
                rw [show decide (mv3 xx ≠ ver3 xx) = true by simpa using hxd] at y1
                rw [HC.out] at hxc
                have hx1 : (xx : Int) < (k : Int) := by omega
                have hx0 : 0 ≤ (xx : Int) := by omega
                have HDRR := hide hdr
                by_cases hz : t = 0
                · have HZ0 := hide hz
                  clear hxx hxe hxd hc9 hdr hz
                  go_wp2_with fail
                  have q1 : decide ((xx : Int) < 0) = false := by simp
                  have q2 : decide ((k : Int) ≤ (xx : Int)) = false := by simp; omega
                  have q2' : decide (k ≤ xx) = false := decide_eq_false (by omega)
                  have q3 : decide (0 < (t : Int)) = false := by have := HZ0.out; simp; omega
                  have q3' : decide (0 < t) = false := by have := HZ0.out; simp; omega
                  go_quiet (fail)
                  go_wp2_with fail
                  exact ⟨⟨t + 1, by omega, by go_num, HDRR.out.trans ⟨nq, rfl⟩⟩, by simp [intOf]; omega⟩
                · obtain ⟨j', hj'⟩ : ∃ j', j' = t - 1 := ⟨_, rfl⟩
                  have hwt : IntKind.i64.wrap ((t : Int) - 1) = (j' : Int) := by rw [wrapI (by omega)]; omega
                  have hjm : j' < many2 := by omega
                  obtain ⟨yv, hyx, hye, hyq⟩ := ndI_mem (L := D) (i := j') (by rw [HDL.out]; exact hjm)
                  have ck2 := cell_gr (hc9 j' hjm) hdr.gr
                  rw [show ((D.getD j' 0 : Nat) : Int) = (yv : Int) from hye] at ck2
                  have hlt2 : yv < xx := by
                    have hp := HDR.out
                    have hl := HDL.out
                    rw [List.pairwise_iff_getElem] at hp
                    have := hp j' t (by omega) (by omega) (by omega)
                    unfold ndI at hye hxe
                    rw [List.getD_eq_getElem?_getD, List.getElem?_eq_getElem (by omega)] at hye hxe
                    simp only [Option.getD_some] at hye hxe
                    omega
                  have hjI : (j' : Int) < (many2 : Int) := by omega
                  have hj0 : 0 ≤ (j' : Int) := by omega
                  clear hxx hxe hxd hc9 hdr hyx hye hyq hj'
                  go_wp2_with fail
                  have q1 : decide ((xx : Int) < 0) = false := by simp
                  have q2 : decide ((k : Int) ≤ (xx : Int)) = false := by simp; omega
                  have q2' : decide (k ≤ xx) = false := decide_eq_false (by omega)
                  have q3 : decide (0 < (t : Int)) = true := by simp; omega
                  have q3' : decide (0 < t) = true := by simp; omega
                  have q4 : decide ((xx : Int) ≤ (yv : Int)) = false := by simp; omega
                  have q4' : decide (xx ≤ yv) = false := by simp; omega
                  go_quiet (fail)
                  go_wp2_with fail
                  exact ⟨⟨t + 1, by omega, by go_num, HDRR.out.trans ⟨nq, rfl⟩⟩, by simp [intOf]; omega⟩
              · obtain rfl : t = many2 := by omega
                have HG9 := hide (hg9.trans hdr.gr)
                generalize wr = w10 at *
                clear HIL HDM HDR hg9 hdr
                by_cases hb : i < nb ∧ zb i = true
                · have hbI : (i : Int) < (nb : Int) := by omega
                  have hi0 : 0 ≤ (i : Int) := by omega
                  obtain ⟨bb, ob, rfl, hbb, hbc⟩ : ∃ b o, ab = some ⟨b, o, none⟩ ∧ b < w.heap.size ∧ ∀ i, i < nb → w.cell? ⟨b, o + i, none⟩ = some (.bool (zb i)) := by
                    rcases HZ.out with h | h
                    · omega
                    · exact h
                  have cb := cell_gr (hbc i hb.1) (HD.out.more HG9.out).gr
                  rw [hb.2] at cb
                  clear hbc hbb
                  have hwu : IntKind.u64.wrap (t : Int) = (t : Int) := by simp [IntKind.wrap, IntKind.bits, IntKind.signed]; omega
                  have hwc : IntKind.u64.wrap (cnt + (t : Int)) = cnt + (t : Int) := by simp [IntKind.wrap, IntKind.bits, IntKind.signed]; omega
                  have HD10 := hide (HD.out.more HG9.out)
                  have HBX10 := hide (row_gr HBX.out HG9.out)
                  have hci10 : cnt + (t : Int) ≤ ((i + 1 : Nat) : Int) * 4096 := by omega
                  have hlt9 := HD.out.lt
                  have hap9 := HD.out.ms.apart
                  have hpB : ∀ z, (z = p ∨ z = q) → z ≠ B0 := fun z e => by omega
                  have HPB := hide hpB
                  have HOI := hide (⟨he0, he1⟩ : 0 ≤ ep3 ∧ ep3 ≤ 1 + ((i + 1 : Nat) : Int))
                  clear hpB hlt9 hap9 he0 he1 HD HBX HROW HKP HMS HVS HMANY
                  go_wp2_with fail
                  refine (duo_rebuild HD10.out (by omega)).mono ?_
                  rintro e w11 ⟨rfl, hD11, hk11⟩
                  rw [HDD.out, HDL.out] at hD11 ⊢
                  have HD11 := hide hD11
                  have hbx11 := hk11.row HBX10.out (fun e => HPB.out B0 e rfl)
                  clear hD11 hk11
                  go_wp2_with fail
                  refine (mcount_any HD11.out.ms).mono ?_
                  rintro e w12 ⟨rfl, hd12⟩
                  have HD12 := hide (HD11.out.more hd12.gr)
                  have hbx12 := row_gr hbx11 hd12.gr
                  clear HD11 hbx11 hd12
                  go_wp2_with fail
                  refine (mdirty_any HD12.out.ms HD12.out.gd).mono ?_
                  rintro e w13 ⟨⟨v13, rfl, ho13⟩, hg13⟩
                  rw [dir_none (fun s _ => rfl)] at ho13
                  obtain ⟨a13, k13, rfl, -⟩ := IlS.slot (w := w13) ho13
                  have HD13 := hide (HD12.out.more hg13)
                  have hbx13 := row_gr hbx12 hg13
                  clear HD12 hbx12 hg13 ho13
                  go_wp2_with fail
                  refine (duo_rebuild HD13.out (by omega)).mono ?_
                  rintro e w14 ⟨rfl, hD14, hk14⟩
                  rw [dir_none (fun s _ => rfl)] at hD14 ⊢
                  rw [show (([] : List Nat).length : Int) = 0 from rfl, Int.add_zero] at hD14
                  have HD14 := hide hD14
                  have hbx14 := hk14.row hbx13 (fun e => HPB.out B0 e rfl)
                  clear hD14 hk14 hbx13 HD13
                  have hmk := run_make_row' (P := Tryz.prog) 47 4 (.bool false) 1 Tryz.underlying47 info_bool rfl .i64 .i64 k (by omega) (by omega) w14
                  have hR := World.rowIs_made w14 (.bool false) k 4
                  have hg14 : Gr w14 (w14.alloc (.cells (madeCells #[.bool false] k) 4)) := (Gr.refl w14).alloc _
                  go_wp2_with fail
                  have hq1 := HD14.out.ms.apart.2.2.2
                  have hq2 := HD14.out.gr.size
                  have hq3 := hbx14.lt
                  have hst2 : DSt w (w14.alloc (.cells (madeCells #[.bool false] k) 4)) p q gp c v B B0 w14.heap.size W H N cc gm cm 0 (cnt + (t : Int)) (i + 1) := by
                    refine ⟨f3, ep3, ver3, f3, ver3, w14, HD14.out.more hg14, HD14.out.ms, hg14.kp, ⟨Nat.le_refl _, by omega, by omega, by omega⟩, ?_, row_gr hbx14 hg14, ?_, HOI.out.1, HOI.out.2⟩
                    · unfold DRow
                      rw [HC.out]
                      exact World.rowIs.congr hR (fun s _ => by simp)
                    · rw [dir_none (fun s _ => rfl)]
                      rfl
                  exact ⟨⟨i + 1, w14.heap.size, 0, cnt + (t : Int), by omega, rfl, rfl, rfl, by go_num, by omega, hci10, hst2⟩, by simp [intOf]; omega⟩
                · have hst2 : DSt w w10 p q gp c v B B0 V' W H N cc gm cm t cnt (i + 1) := ⟨f3, ep3, ver3, S3, mv3, wm3, HD.out.more HG9.out, HMS.out, HKP.out.grb HG9.out, HVS.out, row_gr HROW.out HG9.out, row_gr HBX.out HG9.out, HMANY.out, he0, he1⟩
                  have HST2 := hide hst2
                  have hi0 : 0 ≤ (i : Int) := by omega
                  by_cases hb1 : i < nb
                  · have hbI : (i : Int) < (nb : Int) := by omega
                    have hbz : zb i = false := by
                      cases hzz : zb i
                      · rfl
                      · exact absurd ⟨hb1, hzz⟩ hb
                    obtain ⟨bb, ob, rfl, hbb, hbc⟩ : ∃ b o, ab = some ⟨b, o, none⟩ ∧ b < w.heap.size ∧ ∀ i, i < nb → w.cell? ⟨b, o + i, none⟩ = some (.bool (zb i)) := by
                      rcases HZ.out with h | h
                      · omega
                      · exact h
                    have cb := cell_gr (hbc i hb1) (HD.out.more HG9.out).gr
                    rw [hbz] at cb
                    clear hbc hbb hb hst2 HD HMS HKP HVS HROW HBX HMANY he0 he1
                    go_wp2_with fail
                    exact ⟨⟨i + 1, V', t, cnt, by omega, rfl, rfl, rfl, by go_num, hc0, by omega, HST2.out⟩, by simp [intOf]; omega⟩
                  · have hbI : ¬ (i : Int) < (nb : Int) := by omega
                    clear hb hst2 HD HMS HKP HVS HROW HBX HMANY he0 he1
                    go_wp2_with fail
                    exact ⟨⟨i + 1, V', t, cnt, by omega, rfl, rfl, rfl, by go_num, hc0, by omega, HST2.out⟩, by simp [intOf]; omega⟩
        · by_cases h1 : i < nl
          · have hi1 : (i : Int) < (nl : Int) := by omega
            have hi2 : ¬ (i : Int) < 30 := by omega
            obtain ⟨f2, ep, ver, S, mv, wm, hD, -⟩ := hst
            have HD := hide hD
            clear hD
            go_wp2_with (first | (go_at_call 22; refine (told14_any _).mono ?_; rintro e w7 ⟨rfl, hg7⟩; have HD7 := hide (HD.out.more hg7)) | (go_at_call 14; refine (mcount_any HD7.out.ms).mono ?_; rintro e w8 ⟨rfl, hd8⟩))
            go_ret
            exact ⟨rfl, (HD7.out.more hd8.gr).gr⟩
          · have hi1 : ¬ (i : Int) < (nl : Int) := by omega
            obtain ⟨f2, ep, ver, S, mv, wm, hD, -⟩ := hst
            have HD := hide hD
            clear hD
            go_wp2_with (first | (go_at_call 22; refine (told14_any _).mono ?_; rintro e w7 ⟨rfl, hg7⟩; have HD7 := hide (HD.out.more hg7)) | (go_at_call 14; refine (mcount_any HD7.out.ms).mono ?_; rintro e w8 ⟨rfl, hd8⟩))
            go_ret
            exact ⟨rfl, (HD7.out.more hd8.gr).gr⟩
end Go.Proofs.YtgbadbkipaccgaaGreat
