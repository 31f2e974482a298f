/- The document's table: how far open locals are from each other. No condition. -/
import Derived.Test.YtgbadbkipaccgaaGreatXRef9
import Derived.Test.YtgbadbkipaccgaaGreatCMake12
import Derived.Deep.RegionHeld3
namespace Go.Proofs.YtgbadbkipaccgaaGreat
open Go.RowKit
set_option maxRecDepth 20000

/-- the document's Spread of one goal -/
theorem rspread_goal {W H : Int} {al : Option Addr} {n cap : Nat} {f : Nat → Int} {v : Nat} {w1 u : World} (h : Sl w1 al n f) (htb : mayTB W H n f = true) (hv : v < n) (ho : f v ≠ 255)
    (hg : Gr (w1.alloc (.cells #[.int .i64 (v : Int), .int .i64 4, .int .i64 0] 87)) u) :
    Calls Tryz.prog 47 #[.agg #[.int .i64 W, .int .i64 H, .slice al n cap], .slice (some ⟨w1.heap.size, 0, none⟩) 1 1] u fun e w' => (∃ g cf F, e = .returned (.slice (some ⟨g, 0, none⟩) n cf) ∧ w1.heap.size ≤ g ∧ FarS w' g cf n F ∧ Sprd (nearF W H n f) f n (goalL (v : Int)) F) ∧ Gr w1 w' := by
  have hga : Gr w1 (w1.alloc (.cells #[.int .i64 (v : Int), .int .i64 4, .int .i64 0] 87)) := (Gr.refl w1).alloc _
  have hI : SlS _ _ 1 1 (goalL (v : Int)) := seeds_one w1 ((v : Int), 4, 0)
  simp only at hI
  generalize (w1.alloc (.cells #[.int .i64 (v : Int), .int .i64 4, .int .i64 0] 87)) = u0 at *
  have hgu := hga.trans hg
  refine (rspread_any (h.gr hgu) htb (hI.gr hg) (sds_goal hv ho) (by omega)).mono ?_
  rintro e w2 ⟨⟨g, cf, F, rfl, hge, hfar, hsp⟩, hg2⟩
  have := hgu.size
  exact ⟨⟨g, cf, F, rfl, by omega, hfar, hsp⟩, hgu.trans hg2⟩

end Go.Proofs.YtgbadbkipaccgaaGreat
