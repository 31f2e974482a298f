/- A grid and a mesh over it, side by side. No condition. -/
import Derived.Test.YtgbadbkipaccgaaGreatMRebuild14
import Derived.Test.YtgbadbkipaccgaaGreatMInto14
namespace Go.Proofs.YtgbadbkipaccgaaGreat
open Go.RowKit
set_option maxRecDepth 20000

theorem Ms.congr {w : World} {p q gp B : Nat} {W H : Int} {N : Nat} {S S' mv mv' : Nat → Int} {cnt cnt' : Int} (h : Ms w p q gp B W H N S mv cnt) (e1 : ∀ s, s < cntS W H → SecEq W N s S S') (e2 : ∀ s, s < cntS W H → mv s = mv' s) (hb : Byt N S') (e3 : cnt = cnt') : Ms w p q gp B W H N S' mv' cnt' := by
  subst e3
  obtain ⟨hm, hN⟩ := h.may
  obtain ⟨P, h1, h2⟩ := h.parts
  exact ⟨h.box, ⟨P, h1, fun s hs => by rw [← e2 s hs]; exact (h2 s hs).sec hm hN hs (e1 s hs)⟩, h.apart, h.may, hb, fun s hs => (h.good s hs).sec hN (sec_of hs) (e1 s hs)⟩
theorem Gd.byt {w : World} {p c v : Nat} {W H : Int} {N cc : Nat} {f : Nat → Int} {ep : Int} {ver : Nat → Int} (g : Gd w p c v W H N cc f ep ver) : Byt N f := fun i hi => by
  have a := g.byte i hi
  have b := ((mayM_iff _ _ _ _).1 g.may).2.2 i hi
  omega

/-- a grid and a mesh over it, made since w0 -/
structure Duo (w0 w : World) (p q gp c v B : Nat) (W H : Int) (N cc : Nat) (f : Nat → Int) (ep : Int) (ver S mv : Nat → Int) (cnt : Int) : Prop where
  ms : Ms w p q gp B W H N S mv cnt
  gd : Gd w gp c v W H N cc f ep ver
  lt : gp < B ∧ c < B ∧ v < B
  ge : w0.heap.size ≤ p ∧ w0.heap.size ≤ q ∧ w0.heap.size ≤ gp ∧ w0.heap.size ≤ c ∧ w0.heap.size ≤ v
  apt : Apt p q gp c v
  gr : Gr w0 w
  same : ∀ s, s < cntS W H → mv s = ver s → SecEq W N s S f
  low : ∀ s, s < cntS W H → mv s ≤ ep ∧ ver s ≤ ep
section
variable {w0 w w' : World} {p q gp c v B : Nat} {W H : Int} {N cc : Nat} {f : Nat → Int} {ep : Int} {ver S mv : Nat → Int} {cnt : Int}
theorem Duo.more (h : Duo w0 w p q gp c v B W H N cc f ep ver S mv cnt) (g : Gr w w') : Duo w0 w' p q gp c v B W H N cc f ep ver S mv cnt :=
  ⟨h.ms.gr g, h.gd.gr g, h.lt, h.ge, h.apt, h.gr.trans g, h.same, h.low⟩
theorem duo_new (g : Gd w gp c v W H N cc f ep ver) (hg : Gr w0 w) (hge : w0.heap.size ≤ gp ∧ w0.heap.size ≤ c ∧ w0.heap.size ≤ v) (hv : ∀ s, s < cntS W H → 1 ≤ ver s ∧ ver s ≤ ep) (hep : 0 ≤ ep) :
    Calls Tryz.prog 28 #[.pointer (some ⟨gp, 0, none⟩)] w fun e w' => (∃ p q B, e = .returned (.pointer (some ⟨p, 0, none⟩)) ∧ Duo w0 w' p q gp c v B W H N cc f ep ver (fun _ => 255) (fun _ => 0) 0) ∧ Gr w w' := by
  have HG := hide g
  refine (mnew_any g).mono ?_
  rintro e w' ⟨⟨p, q, rfl, hp, hq, hM⟩, hg1⟩
  have l1 := HG.out.box.lt
  have l2 := HG.out.cost.lt
  have l3 := HG.out.vers.lt
  have s1 := hg.size
  have s2 := hg1.size
  refine ⟨⟨p, q, w'.heap.size, rfl, hM, HG.out.gr hg1, by omega, by omega, fun b e k => by omega, hg.trans hg1, fun s hs e => ?_, fun s hs => ?_⟩, hg1⟩
  · have := hv s hs
    omega
  · have := hv s hs
    omega
theorem duo_rebuild (h : Duo w0 w p q gp c v B W H N cc f ep ver S mv cnt) (hc : 0 ≤ cnt ∧ cnt ≤ 1000000000000) :
    Calls Tryz.prog 15 #[.pointer (some ⟨p, 0, none⟩)] w fun e w' => e = .returned (.int .i64 ((dirL mv ver (cntS W H)).length : Nat)) ∧ Duo w0 w' p q gp c v B W H N cc f ep ver f ver (cnt + (dirL mv ver (cntS W H)).length) ∧ Kp (fun b => b = p ∨ b = q) w w' := by
  refine (mrebuild_any h.ms h.gd h.apt hc).mono ?_
  rintro e w' ⟨rfl, hM, hk⟩
  obtain ⟨hm, hN⟩ := h.ms.may
  have hge := h.ge
  refine ⟨rfl, ⟨hM.congr (fun s hs x hx hxs => ?_) (fun s hs => ?_) h.gd.byt rfl, h.gd.apt hk h.apt, h.lt, h.ge, h.apt, hk.gr h.gr (fun b e => by omega), fun s _ _ x _ _ => rfl, fun s hs => ⟨(h.low s hs).2, (h.low s hs).2⟩⟩, hk⟩
  · unfold updS
    rw [hxs, Int.toNat_natCast]
    by_cases e : s ∈ dirL mv ver (cntS W H)
    · rw [if_pos e]
    · rw [if_neg e]
      refine h.same s hs ?_ x hx hxs
      by_cases k : mv s = ver s
      · exact k
      · exact absurd (dir_mem.2 ⟨hs, k⟩) e
  · unfold updV
    by_cases e : s ∈ dirL mv ver (cntS W H)
    · rw [if_pos e]
    · rw [if_neg e]
      by_cases k : mv s = ver s
      · exact k
      · exact absurd (dir_mem.2 ⟨hs, k⟩) e
theorem duo_edit (h : Duo w0 w p q gp c v B W H N cc f ep ver S mv cnt) (k : Nat) (y : Int) (hk : k < N) (hy : 1 ≤ y ∧ y ≤ 255) (he : 0 ≤ ep ∧ ep ≤ 4611686018427387904) :
    Calls Tryz.prog 23 #[.pointer (some ⟨gp, 0, none⟩), .int .i64 k, .int .i64 y] w fun e w' => e = .returned (.int .i64 0) ∧ Duo w0 w' p q gp c v B W H N cc (putF f k y) (ep + 1) (putF ver (sectorF W k).toNat (ep + 1)) S mv cnt ∧ Kp (Of3 gp c v) w w' := by
  refine (gedit_yes h.gd k y hk hy (by omega)).mono ?_
  rintro e w' ⟨rfl, hG, hkp⟩
  have hge := h.ge
  have hlt := h.lt
  refine ⟨rfl, ⟨h.ms.kp hkp (fun b e => by unfold Of3 at e; omega) (h.apt p (.inl rfl)) (h.apt q (.inr rfl)), hG, h.lt, h.ge, h.apt, hkp.gr h.gr (fun b e => by unfold Of3 at e; omega), fun s hs e x hx hxs => ?_, fun s hs => ?_⟩, hkp⟩
  · have hl := (h.low s hs).1
    unfold putF at e ⊢
    by_cases q : s = (sectorF W k).toNat
    · rw [if_pos q] at e
      omega
    · rw [if_neg q] at e
      rw [if_neg (fun z => by subst z; rw [hxs] at q; omega)]
      exact h.same s hs e x hx hxs
  · have hl := h.low s hs
    unfold putF
    split <;> omega
end

/- what is none -/
theorem new_nil (w : World) : Calls Tryz.prog 28 #[.pointer none] w fun e w' => e = .returned (.pointer none) ∧ Gr w w' := by
  go_enter Tryz.func28, Tryz.ntmps28
  go_wp2
  go_ret
  exact ⟨rfl, (by repeat (first | exact Gr.refl _ | assumption | exact Dr.gr (by assumption) | refine Gr.alloc ?_ _ | refine Gr.drewN ?_ _ | refine Gr.drew ?_ | refine Gr.trans ?_ (by assumption) | refine Gr.trans ?_ (Dr.gr (by assumption))))⟩
theorem dirty_nil (w : World) : Calls Tryz.prog 16 #[.pointer none] w fun e w' => e = .returned (.slice none 0 0) ∧ Gr w w' := by
  go_enter Tryz.func16, Tryz.ntmps16
  go_wp2
  go_ret
  exact ⟨rfl, (by repeat (first | exact Gr.refl _ | assumption | exact Dr.gr (by assumption) | refine Gr.alloc ?_ _ | refine Gr.drewN ?_ _ | refine Gr.drew ?_ | refine Gr.trans ?_ (by assumption) | refine Gr.trans ?_ (Dr.gr (by assumption))))⟩
theorem count_nil (w : World) : Calls Tryz.prog 14 #[.pointer none] w fun e w' => e = .returned (.int .u64 0) ∧ Gr w w' := by
  go_enter Tryz.func14, Tryz.ntmps14
  go_wp2
  go_ret
  exact ⟨rfl, (by repeat (first | exact Gr.refl _ | assumption | exact Dr.gr (by assumption) | refine Gr.alloc ?_ _ | refine Gr.drewN ?_ _ | refine Gr.drew ?_ | refine Gr.trans ?_ (by assumption) | refine Gr.trans ?_ (Dr.gr (by assumption))))⟩
theorem rebuild_nil (w : World) : Calls Tryz.prog 15 #[.pointer none] w fun e w' => e = .returned (.int .i64 0) ∧ Gr w w' := by
  go_enter Tryz.func15, Tryz.ntmps15
  go_wp2_with (go_at_call 16; refine (dirty_nil _).mono ?_; rintro e w1 ⟨rfl, hg1⟩)
  go_loopw [10] (fun i u => i = .int .i64 0 ∧ Gr w u) (fun _ _ => 0)
  case atStart => exact ⟨rfl, hg1⟩
  case round =>
    obtain ⟨rfl, hg⟩ := hrel
    go_wp2
    go_ret
    exact ⟨rfl, hg⟩
theorem part_nil (x : Int) (w : World) : Calls Tryz.prog 32 #[.pointer none, .int .i64 x] w fun e w' => e = .returned (.pointer none) ∧ Gr w w' := by
  go_enter Tryz.func32, Tryz.ntmps32
  go_wp2
  go_ret
  exact ⟨rfl, (by repeat (first | exact Gr.refl _ | assumption | exact Dr.gr (by assumption) | refine Gr.alloc ?_ _ | refine Gr.drewN ?_ _ | refine Gr.drew ?_ | refine Gr.trans ?_ (by assumption) | refine Gr.trans ?_ (Dr.gr (by assumption))))⟩
theorem find_nil (x : Int) (w : World) : Calls Tryz.prog 34 #[.pointer none, .int .i64 x] w fun e w' => e = .returned (.tuple #[.pointer none, .int .i64 0]) ∧ Gr w w' := by
  go_enter Tryz.func34, Tryz.ntmps34
  go_wp2
  go_ret2
  exact ⟨rfl, (by repeat (first | exact Gr.refl _ | assumption | exact Dr.gr (by assumption) | refine Gr.alloc ?_ _ | refine Gr.drewN ?_ _ | refine Gr.drew ?_ | refine Gr.trans ?_ (by assumption) | refine Gr.trans ?_ (Dr.gr (by assumption))))⟩
theorem nodes_nil (x : Int) (w : World) : Calls Tryz.prog 11 #[.pointer none, .int .i64 x] w fun e w' => e = .returned (.slice none 0 0) ∧ Gr w w' := by
  go_enter Tryz.func11, Tryz.ntmps11
  go_wp2_with (go_at_call 32; refine (part_nil _ _).mono ?_; rintro e w1 ⟨rfl, hg1⟩)
  go_ret
  exact ⟨rfl, hg1⟩
theorem dist_nil (a b : Int) (w : World) : Calls Tryz.prog 13 #[.pointer none, .int .i64 a, .int .i64 b] w fun e w' => e = .returned (.int .i64 1099511627776) ∧ Gr w w' := by
  go_enter Tryz.func13, Tryz.ntmps13
  go_wp2_with (first | (go_at_call 34; have hz := hg1; refine (find_nil b _).mono ?_; rintro e w2 ⟨rfl, hg2⟩; have hg12 := hg1.trans hg2) | (go_at_call 34; refine (find_nil a _).mono ?_; rintro e w1 ⟨rfl, hg1⟩))
  go_ret
  exact ⟨rfl, hg12⟩
theorem into_nil (b : Int) (w : World) : Calls Tryz.prog 12 #[.pointer none, .int .i64 b] w fun e w' => e = .returned (.slice none 0 0) ∧ Gr w w' := by
  go_enter Tryz.func12, Tryz.ntmps12
  go_wp2_with (go_at_call 34; refine (find_nil b _).mono ?_; rintro e w1 ⟨rfl, hg1⟩)
  go_ret
  exact ⟨rfl, hg1⟩
end Go.Proofs.YtgbadbkipaccgaaGreat
