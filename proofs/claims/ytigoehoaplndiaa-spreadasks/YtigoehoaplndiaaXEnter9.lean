/- sweep.enter: the nearest seeds enter the ring. No condition. -/
import Derived.Test.YtigoehoaplndiaaXFar9
import Derived.Test.YtigoehoaplndiaaSBase8
import Derived.Test.YtigoehoaplndiaaTMates
import Derived.Deep.CutRange
import Derived.Deep.RegionHeld3
namespace Go.Proofs.Ytigoehoaplndiaa
open Go.RowKit
set_option maxRecDepth 20000

def lenV : Value → Nat
  | .slice _ n _ => n
  | _ => 0
theorem SlS.tail {w : World} {b o n c : Nat} {x : Sd} {L : List Sd} (h : SlS w (some ⟨b, o, none⟩) n c (x :: L)) : SlS w (some ⟨b, if c = 1 then o else o + 3, none⟩) (n - 1) (c - 1) L := by
  obtain ⟨h1, h2, h3⟩ := h.len
  simp only [List.length_cons] at h1
  by_cases e : c = 1
  · rw [if_pos e]
    exact .inr ⟨_, rfl, by omega, by omega, by omega, .inl (by omega)⟩
  · rw [if_neg e]
    exact h.drop (m := 1) (by omega)

set_option maxHeartbeats 4000000 in
theorem enter_any {w0 u : World} {X : Nat → Prop} {g cf n : Nat} {F : Nat → Int} {p : Nat} {a : Int} {Q : List (Int × Int)} {R L : List Sd} {K : Int} {c0 : Nat} {nb : Int → Int → Int} {f : Nat → Int} {al : Option Addr} {m c : Nat}
    (hD : Dj w0 X u g cf n F p a Q) (hk : Dk nb f n L K F a Q R c0 4) (hs : Sds f n K L) (hK : K ≤ 1073741824) (hR : SlS w0 al m c R) (hlen : Q.length + m ≤ 900000) (ha : a ≤ 1000000000000) :
    Calls Try.prog 37 #[.pointer (some ⟨p, 0, none⟩), .slice al m c] u fun e u' => ∃ al' m' c' a' Q' R', e = .returned (.slice al' m' c') ∧ SlS w0 al' m' c' R' ∧ Dj w0 X u' g cf n F p a' Q' ∧ Dk nb f n L K F a' Q' R' c0 4 ∧ (∀ x, x ∈ R' → a' + 255 < x.2.2) ∧ Q'.length + m' = Q.length + m ∧ (Q' = [] → R' = []) := by
  have hml := hR.len.1
  cases R with
  | nil =>
    obtain rfl : m = 0 := by simpa using hml.symm
    go_enter Try.func37, Try.ntmps37
    go_wp2_with fail
    refine wp_loop_rounds 1 ?_
    rw [rounds_succ]
    go_upto_region 3 with fail
    go_quiet (fail)
    go_wp2_with fail
    go_ret
    exact ⟨al, 0, c, a, Q, [], rfl, hR, hD.grw ((Gr.refl _).drewN _), hk, fun x hx => absurd hx List.not_mem_nil, rfl, fun _ => rfl⟩
  | cons x R1 =>
    have hm0 : 0 < m := by simp only [List.length_cons] at hml; omega
    obtain ⟨b, o, rfl, hb, hcell⟩ := hR.at hm0
    obtain ⟨x1, x2, x3⟩ := hcell 0 hm0
    have ex : el (x :: R1) 0 = x := rfl
    rw [ex, Nat.zero_mul, Nat.add_zero] at x1 x2 x3
    have hrx := hk.rest x (.head _)
    have hx4 : 0 ≤ x.2.2 ∧ x.2.2 ≤ K := by
      obtain ⟨cx, hx1, hx2, hx3, hx4, hx5⟩ := hs x hrx.1
      exact ⟨hx4, hx5⟩
    have y3 := cell_gr x3 hD.gr
    have hm0' : (0 : Int) < (m : Int) := by omega
    go_enter Try.func37, Try.ntmps37
    go_wp2_with fail
    refine (djump hD x.2.2 hrx.2 (by omega)).mono ?_
    rintro e u1 ⟨⟨bj, a', rfl, hD1, hj⟩, hk1⟩
    have hk2 : Dk nb f n L K F a' Q (x :: R1) c0 4 := by
      rcases hj with ⟨rfl, rfl⟩ | ⟨_, rfl⟩
      · exact hk.jump hs
      · exact hk
    have ha' : a' ≤ 1000000000000 := by rcases hj with ⟨_, rfl⟩ | ⟨_, rfl⟩ <;> omega
    have HJ : Hid (Q = [] → ∀ y, (x :: R1).head? = some y → y.2.2 = a') := hide (fun e y hy => by
      rcases hj with ⟨_, rfl⟩ | ⟨h, _⟩
      · simp only [List.head?_cons, Option.some.injEq] at hy
        rw [hy]
      · exact absurd e h)
    clear hj hk1 hk hD y3 x1 x2 x3 ex hcell hb ha hml
    go_wp2_with fail
    go_loopw [1] (fun v u' => ∃ (b' o' m' c' : Nat) (Q' : List (Int × Int)) (R' : List Sd), v = .slice (some ⟨b', o', none⟩) m' c' ∧ SlS w0 (some ⟨b', o', none⟩) m' c' R' ∧ Dj w0 X u' g cf n F p a' Q' ∧ Dk nb f n L K F a' Q' R' c0 4 ∧ Hid (Q'.length + m' = Q.length + m) ∧ Hid (Q' = [] → ∀ y, R'.head? = some y → y.2.2 = a')) (fun v _ => lenV v)
    case atStart => exact ⟨b, o, m, c, Q, x :: R1, rfl, hR, hD1, hk2, hide rfl, HJ⟩
    case round =>
      obtain ⟨b', o', m', c', Q', R', rfl, hR', hD', hk', HL, HJ'⟩ := hrel
      generalize wr = w3 at *
      clear hR hk2 HJ
      cases R' with
      | nil =>
        obtain rfl : m' = 0 := by simpa using hR'.len.1.symm
        go_upto_region 3 with fail
        go_quiet (fail)
        go_wp2_with fail
        go_ret
        exact ⟨_, 0, c', a', Q', [], rfl, hR', hD'.grw ((Gr.refl _).drewN _), hk', fun x hx => absurd hx List.not_mem_nil, HL.out, fun _ => rfl⟩
      | cons y R2 =>
        have hl2 := hR'.len.2
        have hm1 : 0 < m' := by
          have := hR'.len.1
          simp only [List.length_cons] at this
          omega
        obtain ⟨b2, o2, e2, hb2, hcell2⟩ := hR'.at hm1
        cases e2
        obtain ⟨z1, z2, z3⟩ := hcell2 0 hm1
        rw [show el (y :: R2) 0 = y from rfl, Nat.zero_mul, Nat.add_zero] at z1 z2 z3
        have v1 := cell_gr z1 hD'.gr
        have v3 := cell_gr z3 hD'.gr
        have hry := hk'.rest y (.head _)
        have hy4 : 0 ≤ y.2.2 ∧ y.2.2 ≤ K := by
          obtain ⟨cx, hx1, hx2, hx3, hx4, hx5⟩ := hs y hry.1
          exact ⟨hx4, hx5⟩
        have hm2 : (0 : Int) < (m' : Int) := by omega
        clear hcell2 z2
        by_cases hput : y.2.2 ≤ a' + 255
        · have HK : Hid (Dk nb f n L K F a' (Q' ++ [(y.2.2, y.1)]) R2 c0 4) := hide (hk'.enter hs)
          go_upto_region 3 with fail
          go_region_held3 (fun v => v.cell? ⟨b', o', none⟩ = some (.int .i64 y.1) ∧ v.cell? ⟨b', o' + 2, none⟩ = some (.int .i64 y.2.2)) (first | exact ⟨v1, v3⟩ | exact ⟨cell_gr z1 hD5.gr, cell_gr z3 hD5.gr⟩) (first | (go_at_call 55; refine (dput (hD'.grw ((Gr.refl w3).drew)) y.2.2 y.1 hry.2 hput (by have := HL.out; omega) (by omega)).mono ?_; rintro e w5 ⟨rfl, hD5, hk5⟩))
          have HT : Hid (SlS w0 (some ⟨b', if c' = 1 then o' else o' + 3, none⟩) (m' - 1) (c' - 1) R2) := hide hR'.tail
          go_wp2_with fail
          go_roundw
          case rel => exact ⟨b', (if c' = 1 then o' else o' + 3), m' - 1, c' - 1, _, R2, (by split <;> rfl), HT.out, hD5, HK.out, hide (by have := HL.out; simp only [List.length_append, List.length_singleton]; omega), hide (fun e => absurd e (by simp))⟩
          case measure => simp [lenV]; omega
        · go_upto_region 3 with fail
          go_region_held3 (fun v => v.cell? ⟨b', o', none⟩ = some (.int .i64 y.1) ∧ v.cell? ⟨b', o' + 2, none⟩ = some (.int .i64 y.2.2)) (first | exact ⟨v1, v3⟩ | exact ⟨cell_gr z1 hD5.gr, cell_gr z3 hD5.gr⟩) (first | (go_at_call 55; refine (dput_no (hD'.grw ((Gr.refl w3).drew)) y.2.2 y.1 (.inr (by omega)) (by omega)).mono ?_; rintro e w5 ⟨rfl, hD5, hk5⟩))
          go_wp2_with fail
          go_ret
          refine ⟨_, m', c', a', Q', y :: R2, rfl, hR', hD5, hk', fun t ht => ?_, HL.out, fun e => ?_⟩
          · rcases List.mem_cons.1 ht with rfl | ht
            · omega
            · have := (List.pairwise_cons.1 hk'.rise).1 t ht
              omega
          · have := HJ'.out e y rfl
            omega
end Go.Proofs.Ytigoehoaplndiaa
