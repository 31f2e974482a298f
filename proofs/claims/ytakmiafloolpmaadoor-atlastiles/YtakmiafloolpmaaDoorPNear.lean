/- The statements' own helpers of layer 3: the two examples are as told; 'near' gives a tile that may be, or a copy. -/
import Derived.Test.YtakmiafloolpmaaDoorPWalks3
namespace Go.Proofs.YtakmiafloolpmaaDoor
open Go.RowKit
set_option maxRecDepth 20000

/-- a literal list of bytes -/
theorem lit_own (w : World) (L : List Int) (hb : ∀ x ∈ L, 0 ≤ x ∧ x ≤ 255) (hl : L.length ≤ 64) : OwnB (w.alloc (.cells (L.map (Value.int .u8)).toArray 5)) w.heap.size w.heap.size L.length L.length (fun i => L.getD i 0) :=
  RowL.ownB (World.ownsRow_lit (base := w.heap.size) (e := 5) (size := 1) w (L.map (Value.int .u8)).toArray L.length (Nat.le_refl _) (by unfold maxLen; omega) (by simp)) hb
theorem lit_sl (w : World) (L : List Int) (hb : ∀ x ∈ L, 0 ≤ x ∧ x ≤ 255) (hl : L.length ≤ 64) : Sl (w.alloc (.cells (L.map (Value.int .u8)).toArray 5)) (some ⟨w.heap.size, 0, none⟩) L.length (fun i => L.getD i 0) := (lit_own w L hb hl).sl.2.2.2.2
/-- the four lists of bytes that are told -/
def tA (i : Nat) : Int := [7, 7, 7, 7].getD i 0
def tB (i : Nat) : Int := [7, 7, 7, 9].getD i 0
def tC (i : Nat) : Int := [0, 7].getD i 0
def tD (i : Nat) : Int := [1, 7, 7, 7, 9].getD i 0
theorem told_a : putL 4 tA = [0, 7] := by
  unfold putL
  rw [if_pos ((cnt_one (by omega)).2 (by decide))]
  rfl
theorem told_b : putL 4 tB = [1, 7, 7, 7, 9] := by
  have h : ¬ cntF 4 tB 0 = 1 := by
    rw [cnt_one (by omega)]
    decide
  have h1 := cntF_pos (n := 4) (f := tB) (i := 0) (by omega)
  unfold putL
  rw [if_neg h, if_pos (by omega)]
  rfl
theorem sl_a (w : World) : Sl (w.alloc (.cells #[.int .u8 7, .int .u8 7, .int .u8 7, .int .u8 7] 5)) (some ⟨w.heap.size, 0, none⟩) 4 tA := lit_sl w [7, 7, 7, 7] (by decide) (by decide)
theorem sl_b (w : World) : Sl (w.alloc (.cells #[.int .u8 7, .int .u8 7, .int .u8 7, .int .u8 9] 5)) (some ⟨w.heap.size, 0, none⟩) 4 tB := lit_sl w [7, 7, 7, 9] (by decide) (by decide)
theorem sl_c (w : World) : Sl (w.alloc (.cells #[.int .u8 0, .int .u8 7] 5)) (some ⟨w.heap.size, 0, none⟩) 2 tC := lit_sl w [0, 7] (by decide) (by decide)
theorem sl_d (w : World) : Sl (w.alloc (.cells #[.int .u8 1, .int .u8 7, .int .u8 7, .int .u8 7, .int .u8 9] 5)) (some ⟨w.heap.size, 0, none⟩) 5 tD := lit_sl w [1, 7, 7, 7, 9] (by decide) (by decide)
theorem put_a (w : World) (a : Option Addr) (h : Sl w a 4 tA) :
    Calls Tryd.prog 32 #[.agg #[.int .i64 2, .int .i64 2, .slice a 4 4]] w fun e w' => (∃ g c, e = .returned (.tuple #[.slice (some ⟨g, 0, none⟩) 2 c, .int .i64 0]) ∧ Sl w' (some ⟨g, 0, none⟩) 2 tC) ∧ Gr w w' := by
  have q := put_yes 2 2 a 4 4 tA w h (by omega) (by unfold maxLen; omega) (by decide)
  rw [told_a] at q
  refine q.mono ?_
  rintro e w1 ⟨⟨g, c, rfl, h1⟩, hg⟩
  exact ⟨⟨g, c, rfl, h1.sl.2.2.2.2⟩, hg⟩
theorem put_b (w : World) (a : Option Addr) (h : Sl w a 4 tB) :
    Calls Tryd.prog 32 #[.agg #[.int .i64 2, .int .i64 2, .slice a 4 4]] w fun e w' => (∃ g c, e = .returned (.tuple #[.slice (some ⟨g, 0, none⟩) 5 c, .int .i64 0]) ∧ Sl w' (some ⟨g, 0, none⟩) 5 tD) ∧ Gr w w' := by
  have q := put_yes 2 2 a 4 4 tB w h (by omega) (by unfold maxLen; omega) (by decide)
  rw [told_b] at q
  refine q.mono ?_
  rintro e w1 ⟨⟨g, c, rfl, h1⟩, hg⟩
  exact ⟨⟨g, c, rfl, h1.sl.2.2.2.2⟩, hg⟩

theorem OwnB.set {w : World} {base g n c : Nat} {f : Nat → Int} (h : OwnB w base g n c f) (k : Nat) {x : Int} (hx : 0 ≤ x ∧ x ≤ 255) : OwnB (w.setCell ⟨g, k, none⟩ (.int .u8 x)) base g n c (upd f k x) := by
  have h1 := (h.own.stored k (.int .u8 x)).1
  rw [cel_set] at h1
  exact ⟨h1, fun i hi => by unfold upd; split; exact hx; exact h.byte i hi⟩
theorem OwnB.congr {w : World} {base g n c : Nat} {f f' : Nat → Int} (h : OwnB w base g n c f) (e : ∀ i, i < n → f i = f' i) : OwnB w base g n c f' :=
  ⟨by rw [← cel_congr e]; exact h.own, fun i hi => by rw [← e i hi]; exact h.byte i hi⟩
theorem OwnB.mono {w : World} {base base' g n c : Nat} {f : Nat → Int} (h : OwnB w base g n c f) (e : base' ≤ base) : OwnB w base' g n c f := ⟨own_mono h.own e, h.byte⟩
theorem OwnB.setO {w : World} {base g n c : Nat} {f : Nat → Int} (h : OwnB w base g n c f) {p : Addr} (hp : g ≠ p.block) (v : Value) : OwnB (w.setCell p v) base g n c f :=
  ⟨ownsRow_setCell_other h.own (a := p) (by simp only [Value.ownBlock, ne_eq, Option.some.injEq]; exact hp) v, h.byte⟩
theorem OwnB.cellAt {w : World} {base g n c : Nat} {f : Nat → Int} (h : OwnB w base g n c f) {i : Nat} (hi : i < n) : w.cell? ⟨g, i, none⟩ = some (.int .u8 (f i)) := by
  rw [h.own.cellAt i (by omega), cel_get _ _ _ hi]

/-- the costs of few kinds -/
def fewF (q : Int) (f : Nat → Int) (i : Nat) : Int := if q = 0 then f 0 else if q = 1 then f (i / 5 * 5) else f i
/-- .. those ahead of k -/
def fewP (q : Int) (f : Nat → Int) (k i : Nat) : Int := if i < k then fewF q f i else f i
theorem fewP_zero (q : Int) (f : Nat → Int) (i : Nat) : f i = fewP q f 0 i := by simp [fewP]
theorem fewP_at0 (f : Nat → Int) (k : Nat) : fewP 0 f k 0 = f 0 := by unfold fewP fewF; split <;> simp
theorem fewP_at1 (f : Nat → Int) (k : Nat) : fewP 1 f k (k / 5 * 5) = f (k / 5 * 5) := by
  unfold fewP fewF
  split
  · simp
  · rfl
theorem fewP_up0 (f : Nat → Int) (k : Nat) : ∀ i, upd (fewP 0 f k) k (f 0) i = fewP 0 f (k + 1) i := by
  intro i
  unfold upd fewP
  by_cases e : i = k
  · rw [if_pos e, if_pos (by omega), e]; simp [fewF]
  · rw [if_neg e]
    by_cases l : i < k
    · rw [if_pos l, if_pos (by omega)]
    · rw [if_neg l, if_neg (by omega)]
theorem fewP_up1 (f : Nat → Int) (k : Nat) : ∀ i, upd (fewP 1 f k) k (f (k / 5 * 5)) i = fewP 1 f (k + 1) i := by
  intro i
  unfold upd fewP
  by_cases e : i = k
  · rw [if_pos e, if_pos (by omega), e]; simp [fewF]
  · rw [if_neg e]
    by_cases l : i < k
    · rw [if_pos l, if_pos (by omega)]
    · rw [if_neg l, if_neg (by omega)]
theorem fewP_up2 (f : Nat → Int) (k : Nat) : ∀ i, fewP 2 f k i = fewP 2 f (k + 1) i := by
  intro i
  unfold fewP fewF
  simp
theorem fewF_bd {q : Int} {f : Nat → Int} (h : ∀ i, 1 ≤ f i ∧ f i ≤ 255) (i : Nat) : 1 ≤ fewF q f i ∧ fewF q f i ≤ 255 := by
  unfold fewF
  split
  · exact h 0
  · split <;> exact h _

end Go.Proofs.YtakmiafloolpmaaDoor
