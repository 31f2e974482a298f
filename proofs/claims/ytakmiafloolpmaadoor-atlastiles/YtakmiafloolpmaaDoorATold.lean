/- told: it answers true where the package's variables hold what its text lays. -/
import Derived.Test.YtakmiafloolpmaaDoorALaws
namespace Go.Proofs.YtakmiafloolpmaaDoor
open Go.RowKit
set_option maxRecDepth 20000

set_option maxHeartbeats 2000000 in
theorem told4_any (ga : Nat → Addr) (w : World) (hw : Glob w ga) :
    Calls Tryd.prog 9 #[] w fun e w' => e = .returned (.bool true) ∧ Gr w w' := by
  have hf : ∀ i, i < 1 → 0 ≤ t5 i ∧ t5 i ≤ 255 := fun i hi => by rw [show i = 0 by omega]; decide
  have hput := fun (u : World) (a : Option Addr) (h : Sl u a 1 t5) => aput_yes 1 1 a 1 1 t5 u h (Nat.le_refl _) told_may
  have hget := fun (u : World) (a : Option Addr) (cap : Nat) (hu : Gr w u) (h : Sl u a (putM 1 1 t5).length (at0 (putM 1 1 t5))) (hc : (putM 1 1 t5).length ≤ cap) (hcm : cap ≤ maxLen) => aget_back 1 1 1 t5 a cap ga u told_may hf h (hw.gr hu) hc hcm (by rw [told_put]; decide)
  have hsb : sameB 6 (at0 [1, 0, 1, 0, 0, 5]) 6 (fun i => [(1 : Int), 0, 1, 0, 0, 5].getD i 0) = true := sameB_refl _ _
  have e6 : [(1 : Int), 0, 1, 0, 0, 5].length = 6 := rfl
  simp only [told_put, e6] at hput hget
  have hlit := fun (u : World) => lit_sl u [1, 0, 1, 0, 0, 5] (by decide) (by decide)
  have hlit5 : ∀ u : World, Sl (u.alloc (.cells #[.int .u8 5] 5)) (some ⟨u.heap.size, 0, none⟩) 1 t5 := fun u => lit_sl u [5] (by decide) (by decide)
  simp only [e6] at hlit
  have hlit6 : ∀ u : World, Sl (u.alloc (.cells #[.int .u8 1, .int .u8 0, .int .u8 1, .int .u8 0, .int .u8 0, .int .u8 5] 5)) (some ⟨u.heap.size, 0, none⟩) 6 (fun i => [(1 : Int), 0, 1, 0, 0, 5].getD i 0) := hlit
  generalize (fun i => [(1 : Int), 0, 1, 0, 0, 5].getD i 0) = P6 at *
  generalize at0 [1, 0, 1, 0, 0, 5] = P5 at *
  have HL5 := hide hlit5
  have HL6 := hide (fun (u : World) (g : Nat) (hg : g = u.heap.size) => show Sl (u.alloc (.cells #[.int .u8 1, .int .u8 0, .int .u8 1, .int .u8 0, .int .u8 0, .int .u8 5] 5)) (some ⟨g, 0, none⟩) 6 P6 by rw [hg]; exact hlit6 u)
  clear hlit hlit5 hlit6 e6
  have HP := hide hput
  have HG := hide hget
  have HSB := hide hsb
  have ht0 : t5 0 = 5 := rfl
  clear hput hget hsb
  go_enter Tryd.func9, Tryd.ntmps9
  go_wp2_with fail
  refine (HP.out _ _ (HL5.out w)).mono ?_
  rintro e w1 ⟨⟨g1, c1, rfl, ho1⟩, hg1⟩
  obtain ⟨q1, q2, -, -, sl1⟩ := ho1.sl
  have hgw1 : Gr w w1 := ((Gr.refl w).alloc _).trans hg1
  have HS1 := hide sl1
  clear hg1 sl1 ho1
  go_wp2_with fail
  refine (HG.out _ _ _ hgw1 HS1.out q1 q2).mono ?_
  rintro e w2 ⟨⟨g2, rfl, sl2⟩, hg2⟩
  obtain ⟨b2, o2, e2, hb2, hcc⟩ := sl2.at (by omega)
  cases e2
  have h5 := hcc 0 (by omega)
  rw [ht0, Nat.zero_add] at h5
  have hgw2 := hgw1.trans hg2
  have sl12 := HS1.out.gr hg2
  have HS2 := hide sl12
  clear hcc hg2 sl2 hgw1 HS1 sl12
  go_wp2_with (go_at_call 19; refine (rbytes_any _ _ _ _ _ _ P5 P6 _ ((HS2.out.gr ((Gr.refl _).alloc _)).gr ((Gr.refl _).alloc _)) (HL6.out _ _ (by simp only [World.size_alloc]))).mono ?_; rintro e w8 ⟨rfl, hw8⟩; subst hw8; rw [HSB.out])
  go_ret
  exact ⟨rfl, (hgw2.alloc _).alloc _⟩

end Go.Proofs.YtakmiafloolpmaaDoor
