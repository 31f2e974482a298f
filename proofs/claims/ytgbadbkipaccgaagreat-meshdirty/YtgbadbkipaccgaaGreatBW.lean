/- What a row tells of a slice of bytes that came in, in the words of the walks. No condition. -/
import Derived.WalkKit
import Derived.Test.YtgbadbkipaccgaaGreatRows
import Derived.WalkSpells
import Derived.Deep.QuietTactic
import Derived.BigQuiet
import Derived.Deep.OwnRows
import Derived.Lib.BytesEntry
import Derived.Lib.SliceRun
import Derived.Laws.BytesString
import Derived.Laws.IdiomStrings
import Derived.OpenShut
namespace Go.Proofs.YtgbadbkipaccgaaGreat
open Go.RowKit
set_option maxRecDepth 20000

/-- A map may be w by h. -/
def mayB (w h : Int) : Bool := decide (1 ≤ w ∧ w ≤ 1024 ∧ 1 ≤ h ∧ h ≤ 1024)
theorem mayB_iff (w h : Int) : mayB w h = true ↔ 1 ≤ w ∧ w ≤ 1024 ∧ 1 ≤ h ∧ h ≤ 1024 := by simp [mayB]
theorem mayB_false (w h : Int) : mayB w h = false ↔ ¬ (1 ≤ w ∧ w ≤ 1024 ∧ 1 ≤ h ∧ h ≤ 1024) := by simp [mayB]

theorem mul_bd {w h W H : Int} (a : 0 ≤ w) (b : w ≤ W) (c : 0 ≤ h) (d : h ≤ H) : 0 ≤ w * h ∧ w * h ≤ W * H :=
  ⟨Int.mul_nonneg a c, Int.mul_le_mul b d c (Int.le_trans a b)⟩

theorem may_mul {w h : Int} (m : mayB w h = true) : 1 ≤ w * h ∧ w * h ≤ 1048576 := by
  obtain ⟨a, b, c, d⟩ := (mayB_iff w h).1 m
  have e := mul_bd (w := w) (h := h) (W := 1024) (H := 1024) (by omega) b (by omega) d
  have f := Int.mul_le_mul a c (by omega) (by omega : (0 : Int) ≤ w)
  omega

def isCellB (w h c : Int) : Bool := mayB w h && decide (0 ≤ c ∧ c < w * h)

def withinF (n lo hi : Int) : Int := lo + n % (hi - lo + 1)
theorem within_bd (n lo hi : Int) (h : lo ≤ hi) : lo ≤ withinF n lo hi ∧ withinF n lo hi ≤ hi := by
  unfold withinF
  have := Int.emod_nonneg n (show hi - lo + 1 ≠ 0 by omega)
  have := Int.emod_lt_of_pos n (show 0 < hi - lo + 1 by omega)
  omega
theorem tmod_bd (n m : Int) (h : 0 < m) : -m < n.tmod m ∧ n.tmod m < m := by
  constructor
  · have := Int.lt_tmod_of_pos n h; omega
  · exact Int.tmod_lt_of_pos n h
theorem tmod_neg (n m : Int) (h : 0 < m) (g : n.tmod m < 0) : n.tmod m + m = n % m := by
  have e := Int.tmod_eq_emod (a := n) (b := m)
  have a := Int.emod_nonneg n (show m ≠ 0 by omega)
  split at e
  · omega
  · omega
theorem tmod_pos (n m : Int) (h : 0 < m) (g : ¬ n.tmod m < 0) : n.tmod m = n % m := by
  have e := Int.tmod_eq_emod (a := n) (b := m)
  have a := Int.emod_lt_of_pos n h
  split at e
  · omega
  · omega

def cellF (w h x y : Int) : Int := if mayB w h = true ∧ 0 ≤ x ∧ x < w ∧ 0 ≤ y ∧ y < h then y * w + x else -1
theorem cellF_yes {w h x y : Int} (m : mayB w h = true) (a : 0 ≤ x) (b : x < w) (c : 0 ≤ y) (d : y < h) : cellF w h x y = y * w + x := by
  simp [cellF, m, a, b, c, d]
theorem cell_lt {w h x y : Int} (b : x < w) (d : y < h) (p : 0 ≤ w) : y * w + x < w * h := by
  have := Int.mul_le_mul_of_nonneg_right (show y ≤ h - 1 by omega) p
  rw [Int.sub_mul, Int.one_mul, Int.mul_comm h w] at this
  omega

def pxF (w h c : Int) : Int := if isCellB w h c = true then c % w else -1
def pyF (w h c : Int) : Int := if isCellB w h c = true then c / w else -1
theorem isCellB_iff (w h c : Int) : isCellB w h c = true ↔ mayB w h = true ∧ 0 ≤ c ∧ c < w * h := by simp [isCellB]
theorem place_bd {w h c : Int} (k : isCellB w h c = true) : 0 ≤ c % w ∧ c % w < w ∧ 0 ≤ c / w ∧ c / w < h ∧ (c / w) * w + c % w = c := by
  obtain ⟨m, a, b⟩ := (isCellB_iff w h c).1 k
  obtain ⟨m1, m2, m3, m4⟩ := (mayB_iff w h).1 m
  refine ⟨Int.emod_nonneg _ (by omega), Int.emod_lt_of_pos _ (by omega), Int.ediv_nonneg a (by omega), ?_, ?_⟩
  · exact Int.ediv_lt_of_lt_mul (by omega) (by rw [Int.mul_comm]; exact b)
  · have := Int.mul_ediv_add_emod c w; rw [Int.mul_comm]; exact this

def acrossF (w : Int) : Int := (w + 15) / 16
theorem across_bd {w : Int} (a : 1 ≤ w) (b : w ≤ 1024) : 1 ≤ acrossF w ∧ acrossF w ≤ 64 ∧ w ≤ 16 * acrossF w ∧ 16 * acrossF w ≤ w + 15 := by
  unfold acrossF; omega
def isSectorB (w h s : Int) : Bool := mayB w h && decide (0 ≤ s ∧ s < acrossF w * acrossF h)
theorem isSectorB_iff (w h s : Int) : isSectorB w h s = true ↔ mayB w h = true ∧ 0 ≤ s ∧ s < acrossF w * acrossF h := by simp [isSectorB]
theorem across_mul {w h : Int} (m : mayB w h = true) : 1 ≤ acrossF w * acrossF h ∧ acrossF w * acrossF h ≤ 4096 := by
  obtain ⟨m1, m2, m3, m4⟩ := (mayB_iff w h).1 m
  have a := across_bd m1 m2
  have b := across_bd m3 m4
  have e := mul_bd (w := acrossF w) (h := acrossF h) (W := 64) (H := 64) (by omega) (by omega) (by omega) (by omega)
  have f := Int.mul_le_mul a.1 b.1 (by omega) (by omega : (0 : Int) ≤ acrossF w)
  omega
theorem sector_bd {w h s : Int} (k : isSectorB w h s = true) :
    0 ≤ s % acrossF w ∧ s % acrossF w < acrossF w ∧ 0 ≤ s / acrossF w ∧ s / acrossF w < acrossF h ∧ (s / acrossF w) * acrossF w + s % acrossF w = s := by
  obtain ⟨m, a, b⟩ := (isSectorB_iff w h s).1 k
  obtain ⟨m1, m2, m3, m4⟩ := (mayB_iff w h).1 m
  have hb := across_bd m1 m2
  refine ⟨Int.emod_nonneg _ (by omega), Int.emod_lt_of_pos _ (by omega), Int.ediv_nonneg a (by omega), ?_, ?_⟩
  · exact Int.ediv_lt_of_lt_mul (by omega) (by rw [Int.mul_comm]; exact b)
  · have := Int.mul_ediv_add_emod s (acrossF w); rw [Int.mul_comm]; exact this
/-- a sector's cells across, down -/
def twF (w s : Int) : Int := min (w - s % acrossF w * 16) 16
def thF (w h s : Int) : Int := min (h - s / acrossF w * 16) 16
theorem size_bd {w h s : Int} (k : isSectorB w h s = true) : 1 ≤ twF w s ∧ twF w s ≤ 16 ∧ 1 ≤ thF w h s ∧ thF w h s ≤ 16 ∧ s % acrossF w * 16 + twF w s ≤ w ∧ s / acrossF w * 16 + thF w h s ≤ h := by
  have b := sector_bd k
  obtain ⟨m, _, _⟩ := (isSectorB_iff w h s).1 k
  obtain ⟨m1, m2, m3, m4⟩ := (mayB_iff w h).1 m
  have c := across_bd m1 m2
  have d := across_bd m3 m4
  unfold twF thF
  omega
def sectorF (w c : Int) : Int := c / w / 16 * acrossF w + c % w / 16
theorem sectorF_mod {w h c : Int} (k : isCellB w h c = true) : sectorF w c % acrossF w = c % w / 16 ∧ sectorF w c / acrossF w = c / w / 16 ∧ isSectorB w h (sectorF w c) = true := by
  have p := place_bd k
  obtain ⟨m, _, _⟩ := (isCellB_iff w h c).1 k
  obtain ⟨m1, m2, m3, m4⟩ := (mayB_iff w h).1 m
  have a := across_bd m1 m2
  have b := across_bd m3 m4
  have hx : c % w / 16 < acrossF w := by omega
  have hy : c / w / 16 < acrossF h := by omega
  have hx0 : 0 ≤ c % w / 16 := by omega
  have hy0 : 0 ≤ c / w / 16 := by omega
  refine ⟨?_, ?_, ?_⟩
  · unfold sectorF
    rw [Int.add_comm, Int.add_mul_emod_self_right]
    exact Int.emod_eq_of_lt hx0 hx
  · unfold sectorF
    rw [Int.add_comm, Int.add_mul_ediv_right _ _ (by omega), Int.ediv_eq_zero_of_lt hx0 hx, Int.zero_add]
  · rw [isSectorB_iff]
    refine ⟨m, ?_, ?_⟩
    · have := Int.mul_nonneg hy0 (show 0 ≤ acrossF w by omega)
      unfold sectorF; omega
    · unfold sectorF
      exact cell_lt hx hy (by omega)
theorem rowcol {tw th X Y : Int} (a : 0 ≤ X) (b : X < tw) (c : 0 ≤ Y) (d : Y < th) :
    0 ≤ Y * tw + X ∧ Y * tw + X < tw * th ∧ (Y * tw + X) % tw = X ∧ (Y * tw + X) / tw = Y := by
  have e := Int.mul_nonneg c (show 0 ≤ tw by omega)
  refine ⟨by omega, cell_lt b d (by omega), ?_, ?_⟩
  · rw [Int.add_comm, Int.add_mul_emod_self_right]
    exact Int.emod_eq_of_lt a b
  · rw [Int.add_comm, Int.add_mul_ediv_right _ _ (by omega), Int.ediv_eq_zero_of_lt a b, Int.zero_add]
def localF (w c : Int) : Int := c / w % 16 * twF w (sectorF w c) + c % w % 16
theorem localF_bd {w h c : Int} (k : isCellB w h c = true) :
    0 ≤ localF w c ∧ localF w c < twF w (sectorF w c) * thF w h (sectorF w c) ∧ localF w c % twF w (sectorF w c) = c % w % 16 ∧ localF w c / twF w (sectorF w c) = c / w % 16 := by
  have p := place_bd k
  obtain ⟨e1, e2, e3⟩ := sectorF_mod k
  have sb := size_bd e3
  have hx : c % w % 16 < twF w (sectorF w c) := by unfold twF; rw [e1]; omega
  have hy : c / w % 16 < thF w h (sectorF w c) := by unfold thF; rw [e2]; omega
  exact rowcol (by omega) hx (by omega) hy
def globalF (w s l : Int) : Int := (s / acrossF w * 16 + l / twF w s) * w + (s % acrossF w * 16 + l % twF w s)
theorem global_back {w h c : Int} (k : isCellB w h c = true) : globalF w (sectorF w c) (localF w c) = c := by
  obtain ⟨e1, e2, _⟩ := sectorF_mod k
  obtain ⟨_, _, l1, l2⟩ := localF_bd k
  have p := place_bd k
  unfold globalF
  rw [l1, l2, e1, e2]
  have a : c / w / 16 * 16 + c / w % 16 = c / w := by omega
  have b : c % w / 16 * 16 + c % w % 16 = c % w := by omega
  rw [a, b]
  exact p.2.2.2.2
theorem local_bd {w h s l : Int} (k : isSectorB w h s = true) (a : 0 ≤ l) (b : l < twF w s * thF w h s) :
    0 ≤ l % twF w s ∧ l % twF w s < twF w s ∧ 0 ≤ l / twF w s ∧ l / twF w s < thF w h s ∧ l / twF w s * twF w s + l % twF w s = l := by
  have sb := size_bd k
  refine ⟨Int.emod_nonneg _ (by omega), Int.emod_lt_of_pos _ (by omega), Int.ediv_nonneg a (by omega), ?_, ?_⟩
  · exact Int.ediv_lt_of_lt_mul (by omega) (by rw [Int.mul_comm]; exact b)
  · have := Int.mul_ediv_add_emod l (twF w s); rw [Int.mul_comm]; exact this
theorem global_cell {w h s l : Int} (k : isSectorB w h s = true) (a : 0 ≤ l) (b : l < twF w s * thF w h s) :
    isCellB w h (globalF w s l) = true ∧ globalF w s l % w = s % acrossF w * 16 + l % twF w s ∧ globalF w s l / w = s / acrossF w * 16 + l / twF w s := by
  have sb := size_bd k
  have c := sector_bd k
  have d := local_bd k a b
  obtain ⟨m, _, _⟩ := (isSectorB_iff w h s).1 k
  have r := rowcol (tw := w) (th := h) (X := s % acrossF w * 16 + l % twF w s) (Y := s / acrossF w * 16 + l / twF w s) (by omega) (by omega) (by omega) (by omega)
  unfold globalF
  exact ⟨(isCellB_iff _ _ _).2 ⟨m, r.1, r.2.1⟩, r.2.2.1, r.2.2.2⟩
theorem global_sector {w h s l : Int} (k : isSectorB w h s = true) (a : 0 ≤ l) (b : l < twF w s * thF w h s) : sectorF w (globalF w s l) = s := by
  have sb := size_bd k
  have c := sector_bd k
  have d := local_bd k a b
  obtain ⟨_, e1, e2⟩ := global_cell k a b
  unfold sectorF
  rw [e1, e2]
  have x : (s % acrossF w * 16 + l % twF w s) / 16 = s % acrossF w := by omega
  have y : (s / acrossF w * 16 + l / twF w s) / 16 = s / acrossF w := by omega
  rw [x, y]
  exact c.2.2.2.2
theorem global_local {w h s l : Int} (k : isSectorB w h s = true) (a : 0 ≤ l) (b : l < twF w s * thF w h s) : localF w (globalF w s l) = l := by
  have sb := size_bd k
  have c := sector_bd k
  have d := local_bd k a b
  obtain ⟨_, e1, e2⟩ := global_cell k a b
  unfold localF
  rw [global_sector k a b, e1, e2]
  have x : (s % acrossF w * 16 + l % twF w s) % 16 = l % twF w s := by omega
  have y : (s / acrossF w * 16 + l / twF w s) % 16 = l / twF w s := by omega
  rw [x, y]
  exact d.2.2.2.2

def stepF (w h c s : Int) : Int :=
  if isCellB w h c = true then
    (if s = 0 then cellF w h (c % w) (c / w - 1) else if s = 1 then cellF w h (c % w + 1) (c / w) else if s = 2 then cellF w h (c % w) (c / w + 1)
     else if s = 3 then cellF w h (c % w - 1) (c / w) else if s = 4 then cellF w h (c % w) (c / w) else -1)
  else -1
def sideF (w h a b : Int) : Int :=
  if isCellB w h b = true then
    (if stepF w h a 0 = b then 0 else if stepF w h a 1 = b then 1 else if stepF w h a 2 = b then 2 else if stepF w h a 3 = b then 3 else if stepF w h a 4 = b then 4 else 5)
  else 5
def backF (s : Int) : Int := if s = 0 then 2 else if s = 1 then 3 else if s = 2 then 0 else if s = 3 then 1 else if s = 4 then 4 else 5
theorem sideF_at {w h a b : Int} (k : isCellB w h b = true) (n : Nat) (hn : n ≤ 4) (hall : ∀ j : Nat, j < n → stepF w h a j ≠ b) (he : stepF w h a n = b) : sideF w h a b = n := by
  unfold sideF
  rw [if_pos k]
  have h0 := hall 0
  have h1 := hall 1
  have h2 := hall 2
  have h3 := hall 3
  match n, hn with
  | 0, _ => simp_all
  | 1, _ => simp_all
  | 2, _ => simp_all
  | 3, _ => simp_all
  | 4, _ => simp_all
theorem sideF_none {w h a b : Int} (k : isCellB w h b = true) (hall : ∀ j : Nat, j < 5 → stepF w h a j ≠ b) : sideF w h a b = 5 := by
  unfold sideF
  rw [if_pos k]
  have h0 := hall 0
  have h1 := hall 1
  have h2 := hall 2
  have h3 := hall 3
  have h4 := hall 4
  simp_all

theorem cellF_no {w h x y : Int} (n : ¬ (0 ≤ x ∧ x < w ∧ 0 ≤ y ∧ y < h)) : cellF w h x y = -1 := by
  unfold cellF; rw [if_neg (by intro k; exact n k.2)]
theorem step_lin {w h c : Int} (k : isCellB w h c = true) :
    stepF w h c 0 = (if 1 ≤ c / w then c - w else -1) ∧ stepF w h c 1 = (if c % w + 1 < w then c + 1 else -1) ∧
    stepF w h c 2 = (if c / w + 1 < h then c + w else -1) ∧ stepF w h c 3 = (if 1 ≤ c % w then c - 1 else -1) ∧ stepF w h c 4 = c := by
  obtain ⟨p1, p2, p3, p4, p5⟩ := place_bd k
  obtain ⟨m, _, _⟩ := (isCellB_iff w h c).1 k
  have e0 : (c / w - 1) * w = c / w * w - w := by rw [Int.sub_mul, Int.one_mul]
  have e2 : (c / w + 1) * w = c / w * w + w := by rw [Int.add_mul, Int.one_mul]
  unfold stepF
  rw [if_pos k, if_pos k, if_pos k, if_pos k, if_pos k]
  refine ⟨?_, ?_, ?_, ?_, ?_⟩
  · rw [if_pos rfl]
    split
    · rw [cellF_yes m (by omega) (by omega) (by omega) (by omega)]; omega
    · exact cellF_no (by omega)
  · rw [if_neg (by omega), if_pos rfl]
    split
    · rw [cellF_yes m (by omega) (by omega) (by omega) (by omega)]; omega
    · exact cellF_no (by omega)
  · rw [if_neg (by omega), if_neg (by omega), if_pos rfl]
    split
    · rw [cellF_yes m (by omega) (by omega) (by omega) (by omega)]; omega
    · exact cellF_no (by omega)
  · rw [if_neg (by omega), if_neg (by omega), if_neg (by omega), if_pos rfl]
    split
    · rw [cellF_yes m (by omega) (by omega) (by omega) (by omega)]; omega
    · exact cellF_no (by omega)
  · rw [if_neg (by omega), if_neg (by omega), if_neg (by omega), if_neg (by omega), if_pos rfl]
    rw [cellF_yes m (by omega) (by omega) (by omega) (by omega)]; omega
/-- a place as a cell -/
theorem at_place {w h X Y n : Int} (m : mayB w h = true) (a : 0 ≤ X) (b : X < w) (c : 0 ≤ Y) (d : Y < h) (e : n = Y * w + X) :
    isCellB w h n = true ∧ n % w = X ∧ n / w = Y := by
  have r := rowcol a b c d
  subst e
  exact ⟨(isCellB_iff _ _ _).2 ⟨m, r.1, r.2.1⟩, r.2.2.1, r.2.2.2⟩
theorem step_ne {w h c s t : Int} (k : isCellB w h c = true) (s0 : 0 ≤ s) (s4 : s ≤ 4) (t0 : 0 ≤ t) (t4 : t ≤ 4) (h1 : s ≠ t) (h2 : 0 ≤ stepF w h c s) : stepF w h c t ≠ stepF w h c s := by
  obtain ⟨e0, e1, e2, e3, e4⟩ := step_lin k
  obtain ⟨p1, p2, p3, p4, _⟩ := place_bd k
  obtain ⟨m, _, _⟩ := (isCellB_iff w h c).1 k
  obtain ⟨m1, m2, m3, m4⟩ := (mayB_iff w h).1 m
  rcases (by omega : s = 0 ∨ s = 1 ∨ s = 2 ∨ s = 3 ∨ s = 4) with rfl | rfl | rfl | rfl | rfl <;>
    rcases (by omega : t = 0 ∨ t = 1 ∨ t = 2 ∨ t = 3 ∨ t = 4) with rfl | rfl | rfl | rfl | rfl <;> omega
theorem step_cell {w h c s : Int} (k : isCellB w h c = true) (s0 : 0 ≤ s) (s4 : s ≤ 4) (h2 : 0 ≤ stepF w h c s) : isCellB w h (stepF w h c s) = true := by
  obtain ⟨e0, e1, e2, e3, e4⟩ := step_lin k
  obtain ⟨p1, p2, p3, p4, p5⟩ := place_bd k
  obtain ⟨m, _, _⟩ := (isCellB_iff w h c).1 k
  have r0 : (c / w - 1) * w = c / w * w - w := by rw [Int.sub_mul, Int.one_mul]
  have r2 : (c / w + 1) * w = c / w * w + w := by rw [Int.add_mul, Int.one_mul]
  rcases (by omega : s = 0 ∨ s = 1 ∨ s = 2 ∨ s = 3 ∨ s = 4) with rfl | rfl | rfl | rfl | rfl
  · exact (at_place m p1 p2 (show 0 ≤ c / w - 1 by omega) (by omega) (by omega)).1
  · exact (at_place m (show 0 ≤ c % w + 1 by omega) (by omega) p3 p4 (by omega)).1
  · exact (at_place m p1 p2 (show 0 ≤ c / w + 1 by omega) (by omega) (by omega)).1
  · exact (at_place m (show 0 ≤ c % w - 1 by omega) (by omega) p3 p4 (by omega)).1
  · rw [e4]; exact k
theorem step_back {w h c s : Int} (k : isCellB w h c = true) (s0 : 0 ≤ s) (s4 : s ≤ 3) (h2 : 0 ≤ stepF w h c s) : stepF w h (stepF w h c s) (backF s) = c := by
  have kn := step_cell k s0 (by omega) h2
  obtain ⟨f0, f1, f2, f3, f4⟩ := step_lin kn
  obtain ⟨e0, e1, e2, e3, e4⟩ := step_lin k
  obtain ⟨p1, p2, p3, p4, p5⟩ := place_bd k
  obtain ⟨m, _, _⟩ := (isCellB_iff w h c).1 k
  have r0 : (c / w - 1) * w = c / w * w - w := by rw [Int.sub_mul, Int.one_mul]
  have r2 : (c / w + 1) * w = c / w * w + w := by rw [Int.add_mul, Int.one_mul]
  rcases (by omega : s = 0 ∨ s = 1 ∨ s = 2 ∨ s = 3) with rfl | rfl | rfl | rfl
  · clear e1 e2 e3 e4 f0 f1 f3 f4
    obtain ⟨_, a, b⟩ := at_place (n := stepF w h c 0) m p1 p2 (show 0 ≤ c / w - 1 by omega) (by omega) (by omega)
    show stepF w h (stepF w h c 0) 2 = c
    rw [f2, b, if_pos (by omega)]; omega
  · clear e0 e2 e3 e4 f0 f1 f2 f4
    obtain ⟨_, a, b⟩ := at_place (n := stepF w h c 1) m (show 0 ≤ c % w + 1 by omega) (by omega) p3 p4 (by omega)
    show stepF w h (stepF w h c 1) 3 = c
    rw [f3, a, if_pos (by omega)]; omega
  · clear e0 e1 e3 e4 f1 f2 f3 f4
    obtain ⟨_, a, b⟩ := at_place (n := stepF w h c 2) m p1 p2 (show 0 ≤ c / w + 1 by omega) (by omega) (by omega)
    show stepF w h (stepF w h c 2) 0 = c
    rw [f0, b, if_pos (by omega)]; omega
  · clear e0 e1 e2 e4 f0 f2 f3 f4
    obtain ⟨_, a, b⟩ := at_place (n := stepF w h c 3) m (show 0 ≤ c % w - 1 by omega) (by omega) p3 p4 (by omega)
    show stepF w h (stepF w h c 3) 1 = c
    rw [f1, a, if_pos (by omega)]; omega
theorem sideF_step {w h c s : Int} (k : isCellB w h c = true) (s0 : 0 ≤ s) (s4 : s ≤ 4) (h2 : 0 ≤ stepF w h c s) : sideF w h c (stepF w h c s) = s := by
  have kn := step_cell k s0 s4 h2
  obtain ⟨n, rfl⟩ := Int.eq_ofNat_of_zero_le s0
  refine sideF_at kn n (by omega) (fun j hj => ?_) rfl
  exact step_ne k s0 s4 (by omega) (by omega) (by omega) h2
theorem step_edge {w h c s : Int} (k : isCellB w h c = true) (s0 : 0 ≤ s) (s4 : s ≤ 3) (h2 : stepF w h c s < 0) :
    stepF w h c s = -1 ∧ (s = 0 ∧ c / w = 0 ∨ s = 2 ∧ c / w = h - 1 ∨ s = 3 ∧ c % w = 0 ∨ s = 1 ∧ c % w = w - 1) := by
  obtain ⟨e0, e1, e2, e3, e4⟩ := step_lin k
  obtain ⟨p1, p2, p3, p4, p5⟩ := place_bd k
  obtain ⟨m, c0, _⟩ := (isCellB_iff w h c).1 k
  have r0 : (c / w - 1) * w = c / w * w - w := by rw [Int.sub_mul, Int.one_mul]
  have n0 : 1 ≤ c / w → 0 ≤ (c / w - 1) * w := fun g => Int.mul_nonneg (by omega) (by omega)
  have n1 : 0 ≤ c / w * w := Int.mul_nonneg p3 (by omega)
  rcases (by omega : s = 0 ∨ s = 1 ∨ s = 2 ∨ s = 3) with rfl | rfl | rfl | rfl <;> omega

theorem hide {p : Prop} (h : p) : Hid p := h
/-- w' is w behind some draws of the tape. -/
def Dr (w w' : World) : Prop := ∃ m, w' = w.drewN m
theorem Dr.refl (w : World) : Dr w w := ⟨0, rfl⟩
theorem Dr.trans {a b c : World} (h : Dr a b) (g : Dr b c) : Dr a c := by
  obtain ⟨m, rfl⟩ := h; obtain ⟨n, rfl⟩ := g; exact ⟨m + n, World.drewN_drewN _ _ _⟩
theorem Dr.add {w w' : World} {n : Nat} (h : Dr w w') : Dr w (w'.drewN n) := h.trans ⟨n, rfl⟩
theorem Dr.drew {w w' : World} (h : Dr w w') : Dr w w'.drew := h.trans ⟨1, rfl⟩
theorem Dr.grown {w w' : World} (h : Dr w w') : Grown w w' := by
  obtain ⟨m, rfl⟩ := h
  induction m with
  | zero => exact Grown.refl _
  | succ k ih => exact ih.drew
theorem Dr.quiet {P : Program} {f : FuncId} {args : Array Value} {w : World} {n : Nat} {v : Value}
    (h : Calls P f args (w.drewN n) fun e w' => e = .returned v ∧ Dr (w.drewN n) w') : Calls P f args (w.drewN n) fun e w'' => e = .returned v ∧ ∃ m, w'' = w.drewN m :=
  Calls.quiet_of h
theorem ret_int {k : IntKind} {a b : Int} (h : a = b) : Ending.returned (.int k a) = .returned (.int k b) := by rw [h]
theorem ret_bool {a b : Bool} (h : a = b) : Ending.returned (.bool a) = .returned (.bool b) := by rw [h]
theorem ret_int2 {k : IntKind} {a b c d : Int} (h : a = b) (g : c = d) : Ending.returned (.tuple #[.int k a, .int k c]) = .returned (.tuple #[.int k b, .int k d]) := by rw [h, g]

set_option maxHeartbeats 400000 in
theorem may_any (a b : Int) (w : World) :
    Calls Tryz.prog 74 #[.int .i64 a, .int .i64 b] w fun e w' => e = .returned (.bool (mayB a b)) ∧ Dr w w' := by
  by_cases h1 : 1 ≤ a <;> by_cases h2 : a ≤ 1024 <;> by_cases h3 : 1 ≤ b <;> by_cases h4 : b ≤ 1024
  all_goals
    go_enter Tryz.func74, Tryz.ntmps74
    go_wp2
    go_ret
    exact ⟨ret_bool (by simp [mayB, h1, h2, h3, h4]), by repeat (first | exact Dr.refl _ | assumption | refine Dr.add ?_ | refine Dr.trans ?_ (by assumption))⟩

set_option maxHeartbeats 400000 in
theorem within_any (n lo hi : Int) (w : World) (h : lo ≤ hi) (hl : -4611686018427387904 ≤ lo * 4) (hh : hi * 4 ≤ 4611686018427387904) :
    Calls Tryz.prog 10 #[.int .i64 n, .int .i64 lo, .int .i64 hi] w fun e w' => e = .returned (.int .i64 (withinF n lo hi)) ∧ Dr w w' := by
  have b := tmod_bd n (hi - lo + 1) (by omega)
  have hz : ((hi - lo + 1) == 0) = false := by simp; omega
  by_cases g : n.tmod (hi - lo + 1) < 0
  · have e := tmod_neg n (hi - lo + 1) (by omega) g
    have H : Hid (withinF n lo hi = lo + (n.tmod (hi - lo + 1) + hi - lo + 1)) := hide (by unfold withinF; omega)
    clear e
    go_enter Tryz.func10, Tryz.ntmps10
    go_wp2
    go_ret
    exact ⟨ret_int (by rw [H.out]), by repeat (first | exact Dr.refl _ | assumption | refine Dr.add ?_ | refine Dr.trans ?_ (by assumption))⟩
  · have e := tmod_pos n (hi - lo + 1) (by omega) g
    have H : Hid (withinF n lo hi = lo + (n.tmod (hi - lo + 1))) := hide (by unfold withinF; omega)
    clear e
    go_enter Tryz.func10, Tryz.ntmps10
    go_wp2
    go_ret
    exact ⟨ret_int (by rw [H.out]), by repeat (first | exact Dr.refl _ | assumption | refine Dr.add ?_ | refine Dr.trans ?_ (by assumption))⟩

set_option maxHeartbeats 400000 in
theorem isCell_any (a b c : Int) (w : World) :
    Calls Tryz.prog 51 #[.int .i64 a, .int .i64 b, .int .i64 c] w fun e w' => e = .returned (.bool (isCellB a b c)) ∧ Dr w w' := by
  cases hm : mayB a b
  · go_enter Tryz.func51, Tryz.ntmps51
    go_wp2_with (go_at_call 74; refine (may_any _ _ _).mono ?_; rintro e w' ⟨rfl, hd⟩)
    go_ret
    exact ⟨ret_bool (by simp [isCellB, hm]), by repeat (first | exact Dr.refl _ | assumption | refine Dr.add ?_ | refine Dr.trans ?_ (by assumption))⟩
  · have hp := may_mul hm
    by_cases h1 : 0 ≤ c
    · by_cases h2 : c < a * b
      all_goals
        go_enter Tryz.func51, Tryz.ntmps51
        go_wp2_with (go_at_call 74; refine (may_any _ _ _).mono ?_; rintro e w' ⟨rfl, hd⟩)
        go_ret
        exact ⟨ret_bool (by simp [isCellB, hm, h1, h2]), by repeat (first | exact Dr.refl _ | assumption | refine Dr.add ?_ | refine Dr.trans ?_ (by assumption))⟩
    · go_enter Tryz.func51, Tryz.ntmps51
      go_wp2_with (go_at_call 74; refine (may_any _ _ _).mono ?_; rintro e w' ⟨rfl, hd⟩)
      go_ret
      exact ⟨ret_bool (by simp [isCellB, hm]; omega), by repeat (first | exact Dr.refl _ | assumption | refine Dr.add ?_ | refine Dr.trans ?_ (by assumption))⟩

set_option maxHeartbeats 400000 in
theorem place_yes (a b c : Int) (w : World) (h : isCellB a b c = true) :
    Calls Tryz.prog 52 #[.int .i64 a, .int .i64 b, .int .i64 c] w fun e w' => e = .returned (.tuple #[.int .i64 (c % a), .int .i64 (c / a)]) ∧ Dr w w' := by
  obtain ⟨m, h0, h1⟩ := (isCellB_iff a b c).1 h
  have hp := may_mul m
  obtain ⟨m1, m2, m3, m4⟩ := (mayB_iff a b).1 m
  have hz : (a == 0) = false := by simp; omega
  go_enter Tryz.func52, Tryz.ntmps52
  go_wp2_with (go_at_call 51; refine (isCell_any _ _ _ _).mono ?_; rintro e w' ⟨rfl, hd⟩)
  go_quiet (fail)
  go_wp2
  go_ret2
  exact ⟨rfl, by repeat (first | exact Dr.refl _ | assumption | refine Dr.add ?_ | refine Dr.trans ?_ (by assumption))⟩

set_option maxHeartbeats 400000 in
theorem place_no (a b c : Int) (w : World) (h : isCellB a b c = false) :
    Calls Tryz.prog 52 #[.int .i64 a, .int .i64 b, .int .i64 c] w fun e w' => e = .returned (.tuple #[.int .i64 (-1), .int .i64 (-1)]) ∧ Dr w w' := by
  go_enter Tryz.func52, Tryz.ntmps52
  go_wp2_with (go_at_call 51; refine (isCell_any _ _ _ _).mono ?_; rintro e w' ⟨rfl, hd⟩)
  go_ret2
  exact ⟨rfl, by repeat (first | exact Dr.refl _ | assumption | refine Dr.add ?_ | refine Dr.trans ?_ (by assumption))⟩

set_option maxHeartbeats 400000 in
theorem cell_any (a b x y : Int) (w : World) :
    Calls Tryz.prog 62 #[.int .i64 a, .int .i64 b, .int .i64 x, .int .i64 y] w fun e w' => e = .returned (.int .i64 (cellF a b x y)) ∧ Dr w w' := by
  cases hm : mayB a b
  · go_enter Tryz.func62, Tryz.ntmps62
    go_wp2_with (go_at_call 74; refine (may_any _ _ _).mono ?_; rintro e w' ⟨rfl, hd⟩)
    go_ret
    exact ⟨ret_int (by simp [cellF, hm]), by repeat (first | exact Dr.refl _ | assumption | refine Dr.add ?_ | refine Dr.trans ?_ (by assumption))⟩
  · obtain ⟨m1, m2, m3, m4⟩ := (mayB_iff a b).1 hm
    by_cases h1 : x < 0
    · go_enter Tryz.func62, Tryz.ntmps62
      go_wp2_with (go_at_call 74; refine (may_any _ _ _).mono ?_; rintro e w' ⟨rfl, hd⟩)
      go_ret
      exact ⟨ret_int (by unfold cellF; rw [if_neg (by omega)]), by repeat (first | exact Dr.refl _ | assumption | refine Dr.add ?_ | refine Dr.trans ?_ (by assumption))⟩
    by_cases h2 : a ≤ x
    · go_enter Tryz.func62, Tryz.ntmps62
      go_wp2_with (go_at_call 74; refine (may_any _ _ _).mono ?_; rintro e w' ⟨rfl, hd⟩)
      go_ret
      exact ⟨ret_int (by unfold cellF; rw [if_neg (by omega)]), by repeat (first | exact Dr.refl _ | assumption | refine Dr.add ?_ | refine Dr.trans ?_ (by assumption))⟩
    by_cases h3 : y < 0
    · go_enter Tryz.func62, Tryz.ntmps62
      go_wp2_with (go_at_call 74; refine (may_any _ _ _).mono ?_; rintro e w' ⟨rfl, hd⟩)
      go_ret
      exact ⟨ret_int (by unfold cellF; rw [if_neg (by omega)]), by repeat (first | exact Dr.refl _ | assumption | refine Dr.add ?_ | refine Dr.trans ?_ (by assumption))⟩
    by_cases h4 : b ≤ y
    · go_enter Tryz.func62, Tryz.ntmps62
      go_wp2_with (go_at_call 74; refine (may_any _ _ _).mono ?_; rintro e w' ⟨rfl, hd⟩)
      go_ret
      exact ⟨ret_int (by unfold cellF; rw [if_neg (by omega)]), by repeat (first | exact Dr.refl _ | assumption | refine Dr.add ?_ | refine Dr.trans ?_ (by assumption))⟩
    have hb := mul_bd (w := y) (h := a) (W := 1024) (H := 1024) (by omega) (by omega) (by omega) m2
    go_enter Tryz.func62, Tryz.ntmps62
    go_wp2_with (go_at_call 74; refine (may_any _ _ _).mono ?_; rintro e w' ⟨rfl, hd⟩)
    go_ret
    exact ⟨ret_int (by rw [cellF_yes hm (by omega) (by omega) (by omega) (by omega)]), by repeat (first | exact Dr.refl _ | assumption | refine Dr.add ?_ | refine Dr.trans ?_ (by assumption))⟩

set_option maxHeartbeats 400000 in
theorem spans_any (a : Int) (w : World) (h1 : 1 ≤ a) (h2 : a ≤ 1024) :
    Calls Tryz.prog 53 #[.int .i64 a] w fun e w' => e = .returned (.int .i64 (acrossF a)) ∧ Dr w w' := by
  go_enter Tryz.func53, Tryz.ntmps53
  go_wp2
  go_ret
  exact ⟨ret_int (by unfold acrossF; omega), by repeat (first | exact Dr.refl _ | assumption | refine Dr.add ?_ | refine Dr.trans ?_ (by assumption))⟩

set_option maxHeartbeats 400000 in
theorem sectors_yes (a b : Int) (w : World) (hm : mayB a b = true) :
    Calls Tryz.prog 57 #[.int .i64 a, .int .i64 b] w fun e w' => e = .returned (.tuple #[.int .i64 (acrossF a), .int .i64 (acrossF b)]) ∧ Dr w w' := by
  obtain ⟨m1, m2, m3, m4⟩ := (mayB_iff a b).1 hm
  go_enter Tryz.func57, Tryz.ntmps57
  go_wp2_with (first | (go_at_call 74; refine (may_any _ _ _).mono ?_; rintro e w' ⟨rfl, hd⟩) | (go_at_call 53; refine (spans_any _ _ (by assumption) (by assumption)).mono ?_; rintro e w' ⟨rfl, hd⟩))
  go_ret2
  exact ⟨rfl, by repeat (first | exact Dr.refl _ | assumption | refine Dr.add ?_ | refine Dr.trans ?_ (by assumption))⟩

set_option maxHeartbeats 400000 in
theorem sectors_no (a b : Int) (w : World) (hm : mayB a b = false) :
    Calls Tryz.prog 57 #[.int .i64 a, .int .i64 b] w fun e w' => e = .returned (.tuple #[.int .i64 0, .int .i64 0]) ∧ Dr w w' := by
  go_enter Tryz.func57, Tryz.ntmps57
  go_wp2_with (go_at_call 74; refine (may_any _ _ _).mono ?_; rintro e w' ⟨rfl, hd⟩)
  go_ret2
  exact ⟨rfl, by repeat (first | exact Dr.refl _ | assumption | refine Dr.add ?_ | refine Dr.trans ?_ (by assumption))⟩

set_option maxHeartbeats 400000 in
theorem isSector_any (a b s : Int) (w : World) :
    Calls Tryz.prog 90 #[.int .i64 a, .int .i64 b, .int .i64 s] w fun e w' => e = .returned (.bool (isSectorB a b s)) ∧ Dr w w' := by
  cases hm : mayB a b
  · by_cases h1 : 0 ≤ s
    · have h2 : ¬ s < 0 := by omega
      go_enter Tryz.func90, Tryz.ntmps90
      go_wp2_with (go_at_call 57; refine (sectors_no _ _ _ hm).mono ?_; rintro e w' ⟨rfl, hd⟩)
      go_ret
      exact ⟨ret_bool (by simp [isSectorB, hm]; omega), by repeat (first | exact Dr.refl _ | assumption | refine Dr.add ?_ | refine Dr.trans ?_ (by assumption))⟩
    · go_enter Tryz.func90, Tryz.ntmps90
      go_wp2_with (go_at_call 57; refine (sectors_no _ _ _ hm).mono ?_; rintro e w' ⟨rfl, hd⟩)
      go_ret
      exact ⟨ret_bool (by simp [isSectorB, hm]), by repeat (first | exact Dr.refl _ | assumption | refine Dr.add ?_ | refine Dr.trans ?_ (by assumption))⟩
  · have hp := across_mul hm
    by_cases h1 : 0 ≤ s
    · by_cases h2 : s < acrossF a * acrossF b
      all_goals
        go_enter Tryz.func90, Tryz.ntmps90
        go_wp2_with (go_at_call 57; refine (sectors_yes _ _ _ hm).mono ?_; rintro e w' ⟨rfl, hd⟩)
        go_ret
        exact ⟨ret_bool (by simp [isSectorB, hm, h1, h2]), by repeat (first | exact Dr.refl _ | assumption | refine Dr.add ?_ | refine Dr.trans ?_ (by assumption))⟩
    · go_enter Tryz.func90, Tryz.ntmps90
      go_wp2_with (go_at_call 57; refine (sectors_yes _ _ _ hm).mono ?_; rintro e w' ⟨rfl, hd⟩)
      go_ret
      exact ⟨ret_bool (by simp [isSectorB, hm]; omega), by repeat (first | exact Dr.refl _ | assumption | refine Dr.add ?_ | refine Dr.trans ?_ (by assumption))⟩

set_option maxHeartbeats 400000 in
theorem corner_any (a s : Int) (w : World) (h1 : 1 ≤ a) (h2 : a ≤ 1024) (h3 : 0 ≤ s) (h4 : s ≤ 4096) :
    Calls Tryz.prog 91 #[.int .i64 a, .int .i64 s] w fun e w' => e = .returned (.tuple #[.int .i64 (s % acrossF a * 16), .int .i64 (s / acrossF a * 16)]) ∧ Dr w w' := by
  have hb := across_bd h1 h2
  have hz : (acrossF a == 0) = false := by simp; omega
  have b1 := Int.emod_nonneg s (show acrossF a ≠ 0 by omega)
  have b2 := Int.emod_lt_of_pos s (show 0 < acrossF a by omega)
  have b3 := Int.ediv_nonneg h3 (show 0 ≤ acrossF a by omega)
  have b4 := Int.ediv_le_self (acrossF a) h3
  go_enter Tryz.func91, Tryz.ntmps91
  go_wp2_with (go_at_call 53; refine (spans_any _ _ h1 h2).mono ?_; rintro e w' ⟨rfl, hd⟩)
  go_quiet (fail)
  go_wp2
  go_ret2
  exact ⟨rfl, by repeat (first | exact Dr.refl _ | assumption | refine Dr.add ?_ | refine Dr.trans ?_ (by assumption))⟩

set_option maxHeartbeats 400000 in
theorem size_yes (a b s : Int) (w : World) (hs : isSectorB a b s = true) :
    Calls Tryz.prog 81 #[.int .i64 a, .int .i64 b, .int .i64 s] w fun e w' => e = .returned (.tuple #[.int .i64 (twF a s), .int .i64 (thF a b s)]) ∧ Dr w w' := by
  obtain ⟨hm, s1, s2⟩ := (isSectorB_iff a b s).1 hs
  have sb := sector_bd hs
  have hp := across_mul hm
  obtain ⟨m1, m2, m3, m4⟩ := (mayB_iff a b).1 hm
  have hb := across_bd m1 m2
  have hb' := across_bd m3 m4
  have s3 : s ≤ 4096 := by omega
  go_enter Tryz.func81, Tryz.ntmps81
  go_wp2_with (first | (go_at_call 90; refine (isSector_any _ _ _ _).mono ?_; rintro e w' ⟨rfl, hd⟩) | (go_at_call 91; refine (corner_any _ _ _ (by assumption) (by assumption) (by assumption) (by assumption)).mono ?_; rintro e w' ⟨rfl, hd⟩))
  all_goals
    go_ret2
    exact ⟨ret_int2 (by unfold twF; omega) (by unfold thF; omega), by repeat (first | exact Dr.refl _ | assumption | refine Dr.add ?_ | refine Dr.trans ?_ (by assumption))⟩

set_option maxHeartbeats 400000 in
theorem size_no (a b s : Int) (w : World) (hs : isSectorB a b s = false) :
    Calls Tryz.prog 81 #[.int .i64 a, .int .i64 b, .int .i64 s] w fun e w' => e = .returned (.tuple #[.int .i64 0, .int .i64 0]) ∧ Dr w w' := by
  go_enter Tryz.func81, Tryz.ntmps81
  go_wp2_with (go_at_call 90; refine (isSector_any _ _ _ _).mono ?_; rintro e w' ⟨rfl, hd⟩)
  go_ret2
  exact ⟨rfl, by repeat (first | exact Dr.refl _ | assumption | refine Dr.add ?_ | refine Dr.trans ?_ (by assumption))⟩

set_option maxHeartbeats 400000 in
theorem sector_yes (a b c : Int) (w : World) (hc : isCellB a b c = true) :
    Calls Tryz.prog 24 #[.int .i64 a, .int .i64 b, .int .i64 c] w fun e w' => e = .returned (.int .i64 (sectorF a c)) ∧ Dr w w' := by
  obtain ⟨hm, c1, c2⟩ := (isCellB_iff a b c).1 hc
  obtain ⟨m1, m2, m3, m4⟩ := (mayB_iff a b).1 hm
  have hb := across_bd m1 m2
  have pb := place_bd hc
  have mb := mul_bd (w := c / a / 16) (h := acrossF a) (W := 64) (H := 64) (by omega) (by omega) (by omega) (by omega)
  go_enter Tryz.func24, Tryz.ntmps24
  go_wp2_with (first | (go_at_call 51; refine (isCell_any _ _ _ _).mono ?_; rintro e w' ⟨rfl, hd⟩) | (go_at_call 52; refine (place_yes _ _ _ _ hc).mono ?_; rintro e w' ⟨rfl, hd⟩) | (go_at_call 53; refine (spans_any _ _ (by assumption) (by assumption)).mono ?_; rintro e w' ⟨rfl, hd⟩))
  go_ret
  exact ⟨rfl, by repeat (first | exact Dr.refl _ | assumption | refine Dr.add ?_ | refine Dr.trans ?_ (by assumption))⟩

set_option maxHeartbeats 400000 in
theorem sector_no (a b c : Int) (w : World) (hc : isCellB a b c = false) :
    Calls Tryz.prog 24 #[.int .i64 a, .int .i64 b, .int .i64 c] w fun e w' => e = .returned (.int .i64 (-1)) ∧ Dr w w' := by
  go_enter Tryz.func24, Tryz.ntmps24
  go_wp2_with (go_at_call 51; refine (isCell_any _ _ _ _).mono ?_; rintro e w' ⟨rfl, hd⟩)
  go_ret
  exact ⟨rfl, by repeat (first | exact Dr.refl _ | assumption | refine Dr.add ?_ | refine Dr.trans ?_ (by assumption))⟩

set_option maxHeartbeats 400000 in
theorem local_yes (a b c : Int) (w : World) (hc : isCellB a b c = true) :
    Calls Tryz.prog 64 #[.int .i64 a, .int .i64 b, .int .i64 c] w fun e w' => e = .returned (.int .i64 (localF a c)) ∧ Dr w w' := by
  obtain ⟨_, _, hs⟩ := sectorF_mod hc
  have sb := size_bd hs
  have pb := place_bd hc
  have mb := mul_bd (w := c / a % 16) (h := twF a (sectorF a c)) (W := 64) (H := 64) (by omega) (by omega) (by omega) (by omega)
  go_enter Tryz.func64, Tryz.ntmps64
  go_wp2_with (first | (go_at_call 51; refine (isCell_any _ _ _ _).mono ?_; rintro e w' ⟨rfl, hd⟩) | (go_at_call 52; refine (place_yes _ _ _ _ hc).mono ?_; rintro e w' ⟨rfl, hd⟩) | (go_at_call 24; refine (sector_yes _ _ _ _ hc).mono ?_; rintro e w' ⟨rfl, hd⟩) | (go_at_call 81; refine (size_yes _ _ _ _ hs).mono ?_; rintro e w' ⟨rfl, hd⟩))
  go_ret
  exact ⟨rfl, by repeat (first | exact Dr.refl _ | assumption | refine Dr.add ?_ | refine Dr.trans ?_ (by assumption))⟩

set_option maxHeartbeats 400000 in
theorem local_no (a b c : Int) (w : World) (hc : isCellB a b c = false) :
    Calls Tryz.prog 64 #[.int .i64 a, .int .i64 b, .int .i64 c] w fun e w' => e = .returned (.int .i64 (-1)) ∧ Dr w w' := by
  go_enter Tryz.func64, Tryz.ntmps64
  go_wp2_with (go_at_call 51; refine (isCell_any _ _ _ _).mono ?_; rintro e w' ⟨rfl, hd⟩)
  go_ret
  exact ⟨rfl, by repeat (first | exact Dr.refl _ | assumption | refine Dr.add ?_ | refine Dr.trans ?_ (by assumption))⟩

theorem localB_mul {a b s : Int} (hs : isSectorB a b s = true) : 1 ≤ twF a s * thF a b s ∧ twF a s * thF a b s ≤ 256 := by
  have sb := size_bd hs
  have e := mul_bd (w := twF a s) (h := thF a b s) (W := 16) (H := 16) (by omega) (by omega) (by omega) (by omega)
  have f := Int.mul_le_mul sb.1 sb.2.2.1 (by omega) (by omega : (0 : Int) ≤ twF a s)
  omega

set_option maxHeartbeats 1000000 in
theorem global_yes (a b s l : Int) (w : World) (hs : isSectorB a b s = true) (h0 : 0 ≤ l) (h1 : l < twF a s * thF a b s) :
    Calls Tryz.prog 82 #[.int .i64 a, .int .i64 b, .int .i64 s, .int .i64 l] w fun e w' => e = .returned (.int .i64 (globalF a s l)) ∧ Dr w w' := by
  obtain ⟨hm, s1, s2⟩ := (isSectorB_iff a b s).1 hs
  have hp := across_mul hm
  have sb := size_bd hs
  have tb := sector_bd hs
  have lb := local_bd hs h0 h1
  have lm := localB_mul hs
  obtain ⟨m1, m2, m3, m4⟩ := (mayB_iff a b).1 hm
  have hz : ¬ twF a s = 0 := by omega
  have s3 : s ≤ 4096 := by omega
  have H : Hid (cellF a b (s % acrossF a * 16 + l % twF a s) (s / acrossF a * 16 + l / twF a s) = globalF a s l) :=
    hide (by rw [cellF_yes hm (by omega) (by omega) (by omega) (by omega)]; rfl)
  have h0' : ¬ l < 0 := by omega
  have h1' : ¬ twF a s * thF a b s ≤ l := by omega
  obtain ⟨l1, l2, l3, l4, l5⟩ := lb
  obtain ⟨t1, t2, t3, t4, t5⟩ := tb
  clear l5 t5
  obtain ⟨u1, u2, u3, u4, u5, u6⟩ := sb
  go_enter Tryz.func82, Tryz.ntmps82
  go_wp2_with (first | (go_at_call 81; refine (size_yes _ _ _ _ hs).mono ?_; rintro e w' ⟨rfl, hd⟩) | (go_at_call 91; refine (corner_any _ _ _ (by assumption) (by assumption) (by assumption) (by assumption)).mono ?_; rintro e w' ⟨rfl, hd⟩))
  have l6 : l ≤ 256 := by omega
  clear h1 lm hp s2 h1' hs hm
  go_quiet ((go_at_call 62; refine Dr.quiet (cell_any _ _ _ _ _)))
  go_wp2
  go_ret
  exact ⟨ret_int H.out, by repeat (first | exact Dr.refl _ | assumption | refine Dr.add ?_ | refine Dr.trans ?_ (by assumption))⟩

set_option maxHeartbeats 1000000 in
theorem global_no (a b s l : Int) (w : World) (hs : isSectorB a b s = true) (h : l < 0 ∨ twF a s * thF a b s ≤ l) :
    Calls Tryz.prog 82 #[.int .i64 a, .int .i64 b, .int .i64 s, .int .i64 l] w fun e w' => e = .returned (.int .i64 (-1)) ∧ Dr w w' := by
  have sb := size_bd hs
  have lm := localB_mul hs
  rcases h with h | h
  · go_enter Tryz.func82, Tryz.ntmps82
    go_wp2_with (go_at_call 81; refine (size_yes _ _ _ _ hs).mono ?_; rintro e w' ⟨rfl, hd⟩)
    go_ret
    exact ⟨rfl, by repeat (first | exact Dr.refl _ | assumption | refine Dr.add ?_ | refine Dr.trans ?_ (by assumption))⟩
  · have h' : ¬ l < 0 := by omega
    go_enter Tryz.func82, Tryz.ntmps82
    go_wp2_with (go_at_call 81; refine (size_yes _ _ _ _ hs).mono ?_; rintro e w' ⟨rfl, hd⟩)
    go_ret
    exact ⟨rfl, by repeat (first | exact Dr.refl _ | assumption | refine Dr.add ?_ | refine Dr.trans ?_ (by assumption))⟩

set_option maxHeartbeats 1000000 in
theorem global_none (a b s l : Int) (w : World) (hs : isSectorB a b s = false) :
    Calls Tryz.prog 82 #[.int .i64 a, .int .i64 b, .int .i64 s, .int .i64 l] w fun e w' => e = .returned (.int .i64 (-1)) ∧ Dr w w' := by
  by_cases h : l < 0
  · go_enter Tryz.func82, Tryz.ntmps82
    go_wp2_with (go_at_call 81; refine (size_no _ _ _ _ hs).mono ?_; rintro e w' ⟨rfl, hd⟩)
    go_ret
    exact ⟨rfl, by repeat (first | exact Dr.refl _ | assumption | refine Dr.add ?_ | refine Dr.trans ?_ (by assumption))⟩
  · have h' : 0 ≤ l := by omega
    go_enter Tryz.func82, Tryz.ntmps82
    go_wp2_with (go_at_call 81; refine (size_no _ _ _ _ hs).mono ?_; rintro e w' ⟨rfl, hd⟩)
    go_ret
    exact ⟨rfl, by repeat (first | exact Dr.refl _ | assumption | refine Dr.add ?_ | refine Dr.trans ?_ (by assumption))⟩

set_option maxHeartbeats 400000 in
theorem step_0 (a b c : Int) (w : World) (hc : isCellB a b c = true) :
    Calls Tryz.prog 37 #[.int .i64 a, .int .i64 b, .int .i64 c, .int .i64 0] w fun e w' => e = .returned (.int .i64 (stepF a b c 0)) ∧ Dr w w' := by
  have pb := place_bd hc
  obtain ⟨m, _, _⟩ := (isCellB_iff a b c).1 hc
  obtain ⟨m1, m2, m3, m4⟩ := (mayB_iff a b).1 m
  obtain ⟨p1, p2, p3, p4, p5⟩ := pb
  clear p5
  have H : Hid (cellF a b (c % a) (c / a - 1) = stepF a b c 0) := hide (by unfold stepF; rw [if_pos hc]; simp)
  go_enter Tryz.func37, Tryz.ntmps37
  go_wp2_with (first | (go_at_call 51; refine (isCell_any _ _ _ _).mono ?_; rintro e w' ⟨rfl, hd⟩) | (go_at_call 52; refine (place_yes _ _ _ _ hc).mono ?_; rintro e w' ⟨rfl, hd⟩) | (go_at_call 62; refine (cell_any _ _ _ _ _).mono ?_; rintro e w' ⟨rfl, hd⟩))
  go_ret
  exact ⟨ret_int (by first | exact H.out | (rw [← H.out]; congr 1; omega)), by repeat (first | exact Dr.refl _ | assumption | refine Dr.add ?_ | refine Dr.trans ?_ (by assumption))⟩

set_option maxHeartbeats 400000 in
theorem step_1 (a b c : Int) (w : World) (hc : isCellB a b c = true) :
    Calls Tryz.prog 37 #[.int .i64 a, .int .i64 b, .int .i64 c, .int .i64 1] w fun e w' => e = .returned (.int .i64 (stepF a b c 1)) ∧ Dr w w' := by
  have pb := place_bd hc
  obtain ⟨m, _, _⟩ := (isCellB_iff a b c).1 hc
  obtain ⟨m1, m2, m3, m4⟩ := (mayB_iff a b).1 m
  obtain ⟨p1, p2, p3, p4, p5⟩ := pb
  clear p5
  have H : Hid (cellF a b (c % a + 1) (c / a) = stepF a b c 1) := hide (by unfold stepF; rw [if_pos hc]; simp)
  go_enter Tryz.func37, Tryz.ntmps37
  go_wp2_with (first | (go_at_call 51; refine (isCell_any _ _ _ _).mono ?_; rintro e w' ⟨rfl, hd⟩) | (go_at_call 52; refine (place_yes _ _ _ _ hc).mono ?_; rintro e w' ⟨rfl, hd⟩) | (go_at_call 62; refine (cell_any _ _ _ _ _).mono ?_; rintro e w' ⟨rfl, hd⟩))
  go_ret
  exact ⟨ret_int (by first | exact H.out | (rw [← H.out]; congr 1; omega)), by repeat (first | exact Dr.refl _ | assumption | refine Dr.add ?_ | refine Dr.trans ?_ (by assumption))⟩

set_option maxHeartbeats 400000 in
theorem step_2 (a b c : Int) (w : World) (hc : isCellB a b c = true) :
    Calls Tryz.prog 37 #[.int .i64 a, .int .i64 b, .int .i64 c, .int .i64 2] w fun e w' => e = .returned (.int .i64 (stepF a b c 2)) ∧ Dr w w' := by
  have pb := place_bd hc
  obtain ⟨m, _, _⟩ := (isCellB_iff a b c).1 hc
  obtain ⟨m1, m2, m3, m4⟩ := (mayB_iff a b).1 m
  obtain ⟨p1, p2, p3, p4, p5⟩ := pb
  clear p5
  have H : Hid (cellF a b (c % a) (c / a + 1) = stepF a b c 2) := hide (by unfold stepF; rw [if_pos hc]; simp)
  go_enter Tryz.func37, Tryz.ntmps37
  go_wp2_with (first | (go_at_call 51; refine (isCell_any _ _ _ _).mono ?_; rintro e w' ⟨rfl, hd⟩) | (go_at_call 52; refine (place_yes _ _ _ _ hc).mono ?_; rintro e w' ⟨rfl, hd⟩) | (go_at_call 62; refine (cell_any _ _ _ _ _).mono ?_; rintro e w' ⟨rfl, hd⟩))
  go_ret
  exact ⟨ret_int (by first | exact H.out | (rw [← H.out]; congr 1; omega)), by repeat (first | exact Dr.refl _ | assumption | refine Dr.add ?_ | refine Dr.trans ?_ (by assumption))⟩

set_option maxHeartbeats 400000 in
theorem step_3 (a b c : Int) (w : World) (hc : isCellB a b c = true) :
    Calls Tryz.prog 37 #[.int .i64 a, .int .i64 b, .int .i64 c, .int .i64 3] w fun e w' => e = .returned (.int .i64 (stepF a b c 3)) ∧ Dr w w' := by
  have pb := place_bd hc
  obtain ⟨m, _, _⟩ := (isCellB_iff a b c).1 hc
  obtain ⟨m1, m2, m3, m4⟩ := (mayB_iff a b).1 m
  obtain ⟨p1, p2, p3, p4, p5⟩ := pb
  clear p5
  have H : Hid (cellF a b (c % a - 1) (c / a) = stepF a b c 3) := hide (by unfold stepF; rw [if_pos hc]; simp)
  go_enter Tryz.func37, Tryz.ntmps37
  go_wp2_with (first | (go_at_call 51; refine (isCell_any _ _ _ _).mono ?_; rintro e w' ⟨rfl, hd⟩) | (go_at_call 52; refine (place_yes _ _ _ _ hc).mono ?_; rintro e w' ⟨rfl, hd⟩) | (go_at_call 62; refine (cell_any _ _ _ _ _).mono ?_; rintro e w' ⟨rfl, hd⟩))
  go_ret
  exact ⟨ret_int (by first | exact H.out | (rw [← H.out]; congr 1; omega)), by repeat (first | exact Dr.refl _ | assumption | refine Dr.add ?_ | refine Dr.trans ?_ (by assumption))⟩

set_option maxHeartbeats 400000 in
theorem step_4 (a b c : Int) (w : World) (hc : isCellB a b c = true) :
    Calls Tryz.prog 37 #[.int .i64 a, .int .i64 b, .int .i64 c, .int .i64 4] w fun e w' => e = .returned (.int .i64 (stepF a b c 4)) ∧ Dr w w' := by
  have pb := place_bd hc
  obtain ⟨m, _, _⟩ := (isCellB_iff a b c).1 hc
  obtain ⟨m1, m2, m3, m4⟩ := (mayB_iff a b).1 m
  obtain ⟨p1, p2, p3, p4, p5⟩ := pb
  clear p5
  have H : Hid (cellF a b (c % a) (c / a) = stepF a b c 4) := hide (by unfold stepF; rw [if_pos hc]; simp)
  go_enter Tryz.func37, Tryz.ntmps37
  go_wp2_with (first | (go_at_call 51; refine (isCell_any _ _ _ _).mono ?_; rintro e w' ⟨rfl, hd⟩) | (go_at_call 52; refine (place_yes _ _ _ _ hc).mono ?_; rintro e w' ⟨rfl, hd⟩) | (go_at_call 62; refine (cell_any _ _ _ _ _).mono ?_; rintro e w' ⟨rfl, hd⟩))
  go_ret
  exact ⟨ret_int (by first | exact H.out | (rw [← H.out]; congr 1; omega)), by repeat (first | exact Dr.refl _ | assumption | refine Dr.add ?_ | refine Dr.trans ?_ (by assumption))⟩

set_option maxHeartbeats 400000 in
theorem step_other (a b c s : Int) (w : World) (hc : isCellB a b c = true) (hs : s < 0 ∨ 4 < s) :
    Calls Tryz.prog 37 #[.int .i64 a, .int .i64 b, .int .i64 c, .int .i64 s] w fun e w' => e = .returned (.int .i64 (stepF a b c s)) ∧ Dr w w' := by
  have e0 : (s == 0) = false := by simp; omega
  have e1 : (s == 1) = false := by simp; omega
  have e2 : (s == 2) = false := by simp; omega
  have e3 : (s == 3) = false := by simp; omega
  have e4 : (s == 4) = false := by simp; omega
  have H : Hid (-1 = stepF a b c s) := hide (by unfold stepF; rw [if_pos hc, if_neg (by omega), if_neg (by omega), if_neg (by omega), if_neg (by omega), if_neg (by omega)])
  clear hs
  go_enter Tryz.func37, Tryz.ntmps37
  go_wp2_with (first | (go_at_call 51; refine (isCell_any _ _ _ _).mono ?_; rintro e w' ⟨rfl, hd⟩) | (go_at_call 52; refine (place_yes _ _ _ _ hc).mono ?_; rintro e w' ⟨rfl, hd⟩))
  go_ret
  exact ⟨ret_int H.out, by repeat (first | exact Dr.refl _ | assumption | refine Dr.add ?_ | refine Dr.trans ?_ (by assumption))⟩

set_option maxHeartbeats 400000 in
theorem step_no (a b c s : Int) (w : World) (hc : isCellB a b c = false) :
    Calls Tryz.prog 37 #[.int .i64 a, .int .i64 b, .int .i64 c, .int .i64 s] w fun e w' => e = .returned (.int .i64 (stepF a b c s)) ∧ Dr w w' := by
  have H : Hid (-1 = stepF a b c s) := hide (by unfold stepF; rw [if_neg (by simp [hc])])
  go_enter Tryz.func37, Tryz.ntmps37
  go_wp2_with (go_at_call 51; refine (isCell_any _ _ _ _).mono ?_; rintro e w' ⟨rfl, hd⟩)
  go_ret
  exact ⟨ret_int H.out, by repeat (first | exact Dr.refl _ | assumption | refine Dr.add ?_ | refine Dr.trans ?_ (by assumption))⟩

theorem step_any (a b c s : Int) (w : World) :
    Calls Tryz.prog 37 #[.int .i64 a, .int .i64 b, .int .i64 c, .int .i64 s] w fun e w' => e = .returned (.int .i64 (stepF a b c s)) ∧ Dr w w' := by
  cases hc : isCellB a b c
  · exact step_no a b c s w hc
  · by_cases h : s < 0 ∨ 4 < s
    · exact step_other a b c s w hc h
    · rcases (by omega : s = 0 ∨ s = 1 ∨ s = 2 ∨ s = 3 ∨ s = 4) with rfl | rfl | rfl | rfl | rfl
      · exact step_0 a b c w hc
      · exact step_1 a b c w hc
      · exact step_2 a b c w hc
      · exact step_3 a b c w hc
      · exact step_4 a b c w hc

set_option maxHeartbeats 400000 in
theorem in_yes (n lo hi : Int) (w : World) (h1 : lo ≤ n) (h2 : n ≤ hi) :
    Calls Tryz.prog 73 #[.int .i64 n, .int .i64 lo, .int .i64 hi] w fun e w' => e = .returned (.bool true) ∧ Dr w w' := by
  go_enter Tryz.func73, Tryz.ntmps73
  go_wp2
  go_ret
  exact ⟨rfl, Dr.refl _⟩

set_option maxHeartbeats 400000 in
theorem in_no (n lo hi : Int) (w : World) (h : n < lo ∨ hi < n) :
    Calls Tryz.prog 73 #[.int .i64 n, .int .i64 lo, .int .i64 hi] w fun e w' => e = .returned (.bool false) ∧ Dr w w' := by
  by_cases h1 : lo ≤ n
  · have h2 : ¬ n ≤ hi := by omega
    clear h
    go_enter Tryz.func73, Tryz.ntmps73
    go_wp2
    go_ret
    exact ⟨rfl, Dr.refl _⟩
  · clear h
    go_enter Tryz.func73, Tryz.ntmps73
    go_wp2
    go_ret
    exact ⟨rfl, Dr.refl _⟩

set_option maxHeartbeats 400000 in
theorem rmay_any (a b : Int) (w : World) :
    Calls Tryz.prog 60 #[.int .i64 a, .int .i64 b] w fun e w' => e = .returned (.bool (mayB a b)) ∧ Dr w w' := by
  by_cases h1 : 1 ≤ a ∧ a ≤ 1024
  · obtain ⟨h1, h2⟩ := h1
    by_cases h3 : 1 ≤ b ∧ b ≤ 1024
    · obtain ⟨h3, h4⟩ := h3
      go_enter Tryz.func60, Tryz.ntmps60
      go_wp2_with (go_at_call 73; (first | refine (in_yes _ _ _ _ (by omega) (by omega)).mono ?_ | refine (in_no _ _ _ _ (by omega)).mono ?_); rintro e w' ⟨rfl, hd⟩)
      go_ret
      exact ⟨ret_bool (by simp [mayB, h1, h2, h3, h4]), by repeat (first | exact Dr.refl _ | assumption | refine Dr.add ?_ | refine Dr.trans ?_ (by assumption))⟩
    · have h5 : b < 1 ∨ 1024 < b := by omega
      go_enter Tryz.func60, Tryz.ntmps60
      go_wp2_with (go_at_call 73; (first | refine (in_yes _ _ _ _ (by omega) (by omega)).mono ?_ | refine (in_no _ _ _ _ (by omega)).mono ?_); rintro e w' ⟨rfl, hd⟩)
      go_ret
      exact ⟨ret_bool ((mayB_false _ _).2 (by omega)).symm, by repeat (first | exact Dr.refl _ | assumption | refine Dr.add ?_ | refine Dr.trans ?_ (by assumption))⟩
  · have h5 : a < 1 ∨ 1024 < a := by omega
    go_enter Tryz.func60, Tryz.ntmps60
    go_wp2_with (go_at_call 73; (first | refine (in_yes _ _ _ _ (by omega) (by omega)).mono ?_ | refine (in_no _ _ _ _ (by omega)).mono ?_); rintro e w' ⟨rfl, hd⟩)
    go_ret
    exact ⟨ret_bool ((mayB_false _ _).2 (by omega)).symm, by repeat (first | exact Dr.refl _ | assumption | refine Dr.add ?_ | refine Dr.trans ?_ (by assumption))⟩

set_option maxHeartbeats 400000 in
theorem risCell_any (a b c : Int) (w : World) :
    Calls Tryz.prog 71 #[.int .i64 a, .int .i64 b, .int .i64 c] w fun e w' => e = .returned (.bool (isCellB a b c)) ∧ Dr w w' := by
  cases hm : mayB a b
  · go_enter Tryz.func71, Tryz.ntmps71
    go_wp2_with (go_at_call 60; refine (rmay_any _ _ _).mono ?_; rintro e w' ⟨rfl, hd⟩)
    go_ret
    exact ⟨ret_bool (by simp [isCellB, hm]), by repeat (first | exact Dr.refl _ | assumption | refine Dr.add ?_ | refine Dr.trans ?_ (by assumption))⟩
  · have hp := may_mul hm
    by_cases h : 0 ≤ c ∧ c < a * b
    · obtain ⟨h1, h2⟩ := h
      go_enter Tryz.func71, Tryz.ntmps71
      go_wp2_with (first | (go_at_call 60; refine (rmay_any _ _ _).mono ?_; rintro e w' ⟨rfl, hd⟩) | (go_at_call 73; (first | refine (in_yes _ _ _ _ (by omega) (by omega)).mono ?_ | refine (in_no _ _ _ _ (by omega)).mono ?_); rintro e w' ⟨rfl, hd⟩))
      go_ret
      exact ⟨ret_bool (by simp [isCellB, hm, h1, h2]), by repeat (first | exact Dr.refl _ | assumption | refine Dr.add ?_ | refine Dr.trans ?_ (by assumption))⟩
    · have h5 : c < 0 ∨ a * b ≤ c := by omega
      go_enter Tryz.func71, Tryz.ntmps71
      go_wp2_with (first | (go_at_call 60; refine (rmay_any _ _ _).mono ?_; rintro e w' ⟨rfl, hd⟩) | (go_at_call 73; (first | refine (in_yes _ _ _ _ (by omega) (by omega)).mono ?_ | refine (in_no _ _ _ _ (by omega)).mono ?_); rintro e w' ⟨rfl, hd⟩))
      go_ret
      exact ⟨ret_bool (by simp [isCellB, hm]; omega), by repeat (first | exact Dr.refl _ | assumption | refine Dr.add ?_ | refine Dr.trans ?_ (by assumption))⟩

set_option maxHeartbeats 400000 in
theorem rsectors_yes (a b : Int) (w : World) (hm : mayB a b = true) :
    Calls Tryz.prog 31 #[.int .i64 a, .int .i64 b] w fun e w' => e = .returned (.tuple #[.int .i64 (acrossF a), .int .i64 (acrossF b)]) ∧ Dr w w' := by
  obtain ⟨m1, m2, m3, m4⟩ := (mayB_iff a b).1 hm
  go_enter Tryz.func31, Tryz.ntmps31
  go_wp2_with (go_at_call 60; refine (rmay_any _ _ _).mono ?_; rintro e w' ⟨rfl, hd⟩)
  go_ret2
  exact ⟨ret_int2 (by unfold acrossF; omega) (by unfold acrossF; omega), by repeat (first | exact Dr.refl _ | assumption | refine Dr.add ?_ | refine Dr.trans ?_ (by assumption))⟩

set_option maxHeartbeats 400000 in
theorem rsectors_no (a b : Int) (w : World) (hm : mayB a b = false) :
    Calls Tryz.prog 31 #[.int .i64 a, .int .i64 b] w fun e w' => e = .returned (.tuple #[.int .i64 0, .int .i64 0]) ∧ Dr w w' := by
  go_enter Tryz.func31, Tryz.ntmps31
  go_wp2_with (go_at_call 60; refine (rmay_any _ _ _).mono ?_; rintro e w' ⟨rfl, hd⟩)
  go_ret2
  exact ⟨rfl, by repeat (first | exact Dr.refl _ | assumption | refine Dr.add ?_ | refine Dr.trans ?_ (by assumption))⟩

set_option maxHeartbeats 600000 in
theorem rstep_0 (a b c : Int) (w : World) (hc : isCellB a b c = true) :
    Calls Tryz.prog 72 #[.int .i64 a, .int .i64 b, .int .i64 c, .int .i64 0] w fun e w' => e = .returned (.int .i64 (stepF a b c 0)) ∧ Dr w w' := by
  obtain ⟨m, c0, c1⟩ := (isCellB_iff a b c).1 hc
  obtain ⟨m1, m2, m3, m4⟩ := (mayB_iff a b).1 m
  obtain ⟨p1, p2, p3, p4, p5⟩ := place_bd hc
  have hz : ¬ a = 0 := by omega
  have HP := hide p5
  have q0 : (c / a - 1) * a = c / a * a - a := by rw [Int.sub_mul, Int.one_mul]
  have q2 : (c / a + 1) * a = c / a * a + a := by rw [Int.add_mul, Int.one_mul]
  have H0 := hide q0
  have H2 := hide q2
  have hb := may_mul m
  have b0 := mul_bd (w := c / a) (h := a) (W := 1024) (H := 1024) (by omega) (by omega) (by omega) (by omega)
  have b1 : -1024 ≤ (c / a - 1) * a ∧ (c / a - 1) * a ≤ 1048576 := by omega
  have b2 : 0 ≤ (c / a + 1) * a ∧ (c / a + 1) * a ≤ 1049600 := by omega
  have HL := hide (step_lin hc)
  have c2 : c ≤ 1048576 := by omega
  clear p5 q0 q2 c1 hb
  by_cases hg : 1 ≤ c / a
  all_goals
    go_enter Tryz.func72, Tryz.ntmps72
    go_wp2_with (first | (go_at_call 71; refine (risCell_any _ _ _ _).mono ?_; rintro e w' ⟨rfl, hd⟩) | (go_at_call 73; (first | refine (in_yes _ _ _ _ (by omega) (by omega)).mono ?_ | refine (in_no _ _ _ _ (by omega)).mono ?_); rintro e w' ⟨rfl, hd⟩))
    go_quiet (fail)
    go_wp2_with (first | (go_at_call 73; (first | refine (in_yes _ _ _ _ (by omega) (by omega)).mono ?_ | refine (in_no _ _ _ _ (by omega)).mono ?_); rintro e w' ⟨rfl, hd⟩))
    go_ret
    exact ⟨ret_int (by have e1 := HL.out; have e2 := HP.out; have e3 := H0.out; have e4 := H2.out; omega), by repeat (first | exact Dr.refl _ | assumption | refine Dr.add ?_ | refine Dr.trans ?_ (by assumption))⟩

set_option maxHeartbeats 600000 in
theorem rstep_1 (a b c : Int) (w : World) (hc : isCellB a b c = true) :
    Calls Tryz.prog 72 #[.int .i64 a, .int .i64 b, .int .i64 c, .int .i64 1] w fun e w' => e = .returned (.int .i64 (stepF a b c 1)) ∧ Dr w w' := by
  obtain ⟨m, c0, c1⟩ := (isCellB_iff a b c).1 hc
  obtain ⟨m1, m2, m3, m4⟩ := (mayB_iff a b).1 m
  obtain ⟨p1, p2, p3, p4, p5⟩ := place_bd hc
  have hz : ¬ a = 0 := by omega
  have HP := hide p5
  have q0 : (c / a - 1) * a = c / a * a - a := by rw [Int.sub_mul, Int.one_mul]
  have q2 : (c / a + 1) * a = c / a * a + a := by rw [Int.add_mul, Int.one_mul]
  have H0 := hide q0
  have H2 := hide q2
  have hb := may_mul m
  have b0 := mul_bd (w := c / a) (h := a) (W := 1024) (H := 1024) (by omega) (by omega) (by omega) (by omega)
  have b1 : -1024 ≤ (c / a - 1) * a ∧ (c / a - 1) * a ≤ 1048576 := by omega
  have b2 : 0 ≤ (c / a + 1) * a ∧ (c / a + 1) * a ≤ 1049600 := by omega
  have HL := hide (step_lin hc)
  have c2 : c ≤ 1048576 := by omega
  clear p5 q0 q2 c1 hb
  by_cases hg : c % a + 1 < a
  all_goals
    go_enter Tryz.func72, Tryz.ntmps72
    go_wp2_with (first | (go_at_call 71; refine (risCell_any _ _ _ _).mono ?_; rintro e w' ⟨rfl, hd⟩) | (go_at_call 73; (first | refine (in_yes _ _ _ _ (by omega) (by omega)).mono ?_ | refine (in_no _ _ _ _ (by omega)).mono ?_); rintro e w' ⟨rfl, hd⟩))
    go_quiet (fail)
    go_wp2_with (first | (go_at_call 73; (first | refine (in_yes _ _ _ _ (by omega) (by omega)).mono ?_ | refine (in_no _ _ _ _ (by omega)).mono ?_); rintro e w' ⟨rfl, hd⟩))
    go_ret
    exact ⟨ret_int (by have e1 := HL.out; have e2 := HP.out; have e3 := H0.out; have e4 := H2.out; omega), by repeat (first | exact Dr.refl _ | assumption | refine Dr.add ?_ | refine Dr.trans ?_ (by assumption))⟩

set_option maxHeartbeats 600000 in
theorem rstep_2 (a b c : Int) (w : World) (hc : isCellB a b c = true) :
    Calls Tryz.prog 72 #[.int .i64 a, .int .i64 b, .int .i64 c, .int .i64 2] w fun e w' => e = .returned (.int .i64 (stepF a b c 2)) ∧ Dr w w' := by
  obtain ⟨m, c0, c1⟩ := (isCellB_iff a b c).1 hc
  obtain ⟨m1, m2, m3, m4⟩ := (mayB_iff a b).1 m
  obtain ⟨p1, p2, p3, p4, p5⟩ := place_bd hc
  have hz : ¬ a = 0 := by omega
  have HP := hide p5
  have q0 : (c / a - 1) * a = c / a * a - a := by rw [Int.sub_mul, Int.one_mul]
  have q2 : (c / a + 1) * a = c / a * a + a := by rw [Int.add_mul, Int.one_mul]
  have H0 := hide q0
  have H2 := hide q2
  have hb := may_mul m
  have b0 := mul_bd (w := c / a) (h := a) (W := 1024) (H := 1024) (by omega) (by omega) (by omega) (by omega)
  have b1 : -1024 ≤ (c / a - 1) * a ∧ (c / a - 1) * a ≤ 1048576 := by omega
  have b2 : 0 ≤ (c / a + 1) * a ∧ (c / a + 1) * a ≤ 1049600 := by omega
  have HL := hide (step_lin hc)
  have c2 : c ≤ 1048576 := by omega
  clear p5 q0 q2 c1 hb
  by_cases hg : c / a + 1 < b
  all_goals
    go_enter Tryz.func72, Tryz.ntmps72
    go_wp2_with (first | (go_at_call 71; refine (risCell_any _ _ _ _).mono ?_; rintro e w' ⟨rfl, hd⟩) | (go_at_call 73; (first | refine (in_yes _ _ _ _ (by omega) (by omega)).mono ?_ | refine (in_no _ _ _ _ (by omega)).mono ?_); rintro e w' ⟨rfl, hd⟩))
    go_quiet (fail)
    go_wp2_with (first | (go_at_call 73; (first | refine (in_yes _ _ _ _ (by omega) (by omega)).mono ?_ | refine (in_no _ _ _ _ (by omega)).mono ?_); rintro e w' ⟨rfl, hd⟩))
    go_ret
    exact ⟨ret_int (by have e1 := HL.out; have e2 := HP.out; have e3 := H0.out; have e4 := H2.out; omega), by repeat (first | exact Dr.refl _ | assumption | refine Dr.add ?_ | refine Dr.trans ?_ (by assumption))⟩

set_option maxHeartbeats 600000 in
theorem rstep_3 (a b c : Int) (w : World) (hc : isCellB a b c = true) :
    Calls Tryz.prog 72 #[.int .i64 a, .int .i64 b, .int .i64 c, .int .i64 3] w fun e w' => e = .returned (.int .i64 (stepF a b c 3)) ∧ Dr w w' := by
  obtain ⟨m, c0, c1⟩ := (isCellB_iff a b c).1 hc
  obtain ⟨m1, m2, m3, m4⟩ := (mayB_iff a b).1 m
  obtain ⟨p1, p2, p3, p4, p5⟩ := place_bd hc
  have hz : ¬ a = 0 := by omega
  have HP := hide p5
  have q0 : (c / a - 1) * a = c / a * a - a := by rw [Int.sub_mul, Int.one_mul]
  have q2 : (c / a + 1) * a = c / a * a + a := by rw [Int.add_mul, Int.one_mul]
  have H0 := hide q0
  have H2 := hide q2
  have hb := may_mul m
  have b0 := mul_bd (w := c / a) (h := a) (W := 1024) (H := 1024) (by omega) (by omega) (by omega) (by omega)
  have b1 : -1024 ≤ (c / a - 1) * a ∧ (c / a - 1) * a ≤ 1048576 := by omega
  have b2 : 0 ≤ (c / a + 1) * a ∧ (c / a + 1) * a ≤ 1049600 := by omega
  have HL := hide (step_lin hc)
  have c2 : c ≤ 1048576 := by omega
  clear p5 q0 q2 c1 hb
  by_cases hg : 1 ≤ c % a
  all_goals
    go_enter Tryz.func72, Tryz.ntmps72
    go_wp2_with (first | (go_at_call 71; refine (risCell_any _ _ _ _).mono ?_; rintro e w' ⟨rfl, hd⟩) | (go_at_call 73; (first | refine (in_yes _ _ _ _ (by omega) (by omega)).mono ?_ | refine (in_no _ _ _ _ (by omega)).mono ?_); rintro e w' ⟨rfl, hd⟩))
    go_quiet (fail)
    go_wp2_with (first | (go_at_call 73; (first | refine (in_yes _ _ _ _ (by omega) (by omega)).mono ?_ | refine (in_no _ _ _ _ (by omega)).mono ?_); rintro e w' ⟨rfl, hd⟩))
    go_ret
    exact ⟨ret_int (by have e1 := HL.out; have e2 := HP.out; have e3 := H0.out; have e4 := H2.out; omega), by repeat (first | exact Dr.refl _ | assumption | refine Dr.add ?_ | refine Dr.trans ?_ (by assumption))⟩

set_option maxHeartbeats 600000 in
theorem rstep_4 (a b c : Int) (w : World) (hc : isCellB a b c = true) :
    Calls Tryz.prog 72 #[.int .i64 a, .int .i64 b, .int .i64 c, .int .i64 4] w fun e w' => e = .returned (.int .i64 (stepF a b c 4)) ∧ Dr w w' := by
  obtain ⟨m, c0, c1⟩ := (isCellB_iff a b c).1 hc
  obtain ⟨m1, m2, m3, m4⟩ := (mayB_iff a b).1 m
  obtain ⟨p1, p2, p3, p4, p5⟩ := place_bd hc
  have hz : ¬ a = 0 := by omega
  have HP := hide p5
  have q0 : (c / a - 1) * a = c / a * a - a := by rw [Int.sub_mul, Int.one_mul]
  have q2 : (c / a + 1) * a = c / a * a + a := by rw [Int.add_mul, Int.one_mul]
  have H0 := hide q0
  have H2 := hide q2
  have hb := may_mul m
  have b0 := mul_bd (w := c / a) (h := a) (W := 1024) (H := 1024) (by omega) (by omega) (by omega) (by omega)
  have b1 : -1024 ≤ (c / a - 1) * a ∧ (c / a - 1) * a ≤ 1048576 := by omega
  have b2 : 0 ≤ (c / a + 1) * a ∧ (c / a + 1) * a ≤ 1049600 := by omega
  have HL := hide (step_lin hc)
  have c2 : c ≤ 1048576 := by omega
  clear p5 q0 q2 c1 hb
  by_cases hg : 0 ≤ c % a
  all_goals
    go_enter Tryz.func72, Tryz.ntmps72
    go_wp2_with (first | (go_at_call 71; refine (risCell_any _ _ _ _).mono ?_; rintro e w' ⟨rfl, hd⟩) | (go_at_call 73; (first | refine (in_yes _ _ _ _ (by omega) (by omega)).mono ?_ | refine (in_no _ _ _ _ (by omega)).mono ?_); rintro e w' ⟨rfl, hd⟩))
    go_quiet (fail)
    go_wp2_with (first | (go_at_call 73; (first | refine (in_yes _ _ _ _ (by omega) (by omega)).mono ?_ | refine (in_no _ _ _ _ (by omega)).mono ?_); rintro e w' ⟨rfl, hd⟩))
    go_ret
    exact ⟨ret_int (by have e1 := HL.out; have e2 := HP.out; have e3 := H0.out; have e4 := H2.out; omega), by repeat (first | exact Dr.refl _ | assumption | refine Dr.add ?_ | refine Dr.trans ?_ (by assumption))⟩

set_option maxHeartbeats 400000 in
theorem rstep_no (a b c s : Int) (w : World) (hc : isCellB a b c = false) :
    Calls Tryz.prog 72 #[.int .i64 a, .int .i64 b, .int .i64 c, .int .i64 s] w fun e w' => e = .returned (.int .i64 (stepF a b c s)) ∧ Dr w w' := by
  have H : Hid (-1 = stepF a b c s) := hide (by unfold stepF; rw [if_neg (by simp [hc])])
  go_enter Tryz.func72, Tryz.ntmps72
  go_wp2_with (go_at_call 71; refine (risCell_any _ _ _ _).mono ?_; rintro e w' ⟨rfl, hd⟩)
  go_ret
  exact ⟨ret_int H.out, by repeat (first | exact Dr.refl _ | assumption | refine Dr.add ?_ | refine Dr.trans ?_ (by assumption))⟩

set_option maxHeartbeats 400000 in
theorem rstep_other (a b c s : Int) (w : World) (hc : isCellB a b c = true) (hs : s < 0 ∨ 4 < s) :
    Calls Tryz.prog 72 #[.int .i64 a, .int .i64 b, .int .i64 c, .int .i64 s] w fun e w' => e = .returned (.int .i64 (stepF a b c s)) ∧ Dr w w' := by
  have H : Hid (-1 = stepF a b c s) := hide (by unfold stepF; rw [if_pos hc, if_neg (by omega), if_neg (by omega), if_neg (by omega), if_neg (by omega), if_neg (by omega)])
  go_enter Tryz.func72, Tryz.ntmps72
  go_wp2_with (first | (go_at_call 71; refine (risCell_any _ _ _ _).mono ?_; rintro e w' ⟨rfl, hd⟩) | (go_at_call 73; (first | refine (in_yes _ _ _ _ (by omega) (by omega)).mono ?_ | refine (in_no _ _ _ _ (by omega)).mono ?_); rintro e w' ⟨rfl, hd⟩))
  go_ret
  exact ⟨ret_int H.out, by repeat (first | exact Dr.refl _ | assumption | refine Dr.add ?_ | refine Dr.trans ?_ (by assumption))⟩

theorem rstep_any (a b c s : Int) (w : World) :
    Calls Tryz.prog 72 #[.int .i64 a, .int .i64 b, .int .i64 c, .int .i64 s] w fun e w' => e = .returned (.int .i64 (stepF a b c s)) ∧ Dr w w' := by
  cases hc : isCellB a b c
  · exact rstep_no a b c s w hc
  · by_cases h : s < 0 ∨ 4 < s
    · exact rstep_other a b c s w hc h
    · rcases (by omega : s = 0 ∨ s = 1 ∨ s = 2 ∨ s = 3 ∨ s = 4) with rfl | rfl | rfl | rfl | rfl
      · exact rstep_0 a b c w hc
      · exact rstep_1 a b c w hc
      · exact rstep_2 a b c w hc
      · exact rstep_3 a b c w hc
      · exact rstep_4 a b c w hc

theorem sideF_nocell {a b c d : Int} (hc : isCellB a b c = false) : sideF a b c d = 5 := by
  cases hd : isCellB a b d
  · unfold sideF; rw [if_neg (by simp [hd])]
  · obtain ⟨_, h0, _⟩ := (isCellB_iff a b d).1 hd
    refine sideF_none hd (fun j _ => ?_)
    have : stepF a b c j = -1 := by unfold stepF; rw [if_neg (by simp [hc])]
    omega

set_option maxHeartbeats 400000 in
theorem rsector_yes (a b c : Int) (w : World) (hc : isCellB a b c = true) :
    Calls Tryz.prog 45 #[.int .i64 a, .int .i64 b, .int .i64 c] w fun e w' => e = .returned (.int .i64 (sectorF a c)) ∧ Dr w w' := by
  obtain ⟨hm, c1, c2⟩ := (isCellB_iff a b c).1 hc
  obtain ⟨m1, m2, m3, m4⟩ := (mayB_iff a b).1 hm
  have hb := across_bd m1 m2
  have pm := may_mul hm
  obtain ⟨p1, p2, p3, p4, p5⟩ := place_bd hc
  have mb := mul_bd (w := c / a / 16) (h := acrossF a) (W := 64) (H := 64) (by omega) (by omega) (by omega) (by omega)
  have hz : ¬ a = 0 := by omega
  have c3 : c ≤ 1048576 := by omega
  clear p5 c2 pm
  go_enter Tryz.func45, Tryz.ntmps45
  go_wp2_with (first | (go_at_call 71; refine (risCell_any _ _ _ _).mono ?_; rintro e w' ⟨rfl, hd⟩) | (go_at_call 31; refine (rsectors_yes _ _ _ hm).mono ?_; rintro e w' ⟨rfl, hd⟩))
  go_quiet (fail)
  go_wp2
  go_ret
  exact ⟨rfl, by repeat (first | exact Dr.refl _ | assumption | refine Dr.add ?_ | refine Dr.trans ?_ (by assumption))⟩

set_option maxHeartbeats 400000 in
theorem rsector_no (a b c : Int) (w : World) (hc : isCellB a b c = false) :
    Calls Tryz.prog 45 #[.int .i64 a, .int .i64 b, .int .i64 c] w fun e w' => e = .returned (.int .i64 (-1)) ∧ Dr w w' := by
  go_enter Tryz.func45, Tryz.ntmps45
  go_wp2_with (go_at_call 71; refine (risCell_any _ _ _ _).mono ?_; rintro e w' ⟨rfl, hd⟩)
  go_ret
  exact ⟨rfl, by repeat (first | exact Dr.refl _ | assumption | refine Dr.add ?_ | refine Dr.trans ?_ (by assumption))⟩

def countF (a b : Int) : Int := if mayB a b = true then acrossF a * acrossF b else 0
set_option maxHeartbeats 400000 in
theorem rcount_any (a b : Int) (w : World) :
    Calls Tryz.prog 9 #[.int .i64 a, .int .i64 b] w fun e w' => e = .returned (.int .i64 (countF a b)) ∧ Dr w w' := by
  cases hm : mayB a b
  · have H : Hid (0 = countF a b) := hide (by unfold countF; rw [if_neg (by simp [hm])])
    go_enter Tryz.func9, Tryz.ntmps9
    go_wp2_with (go_at_call 31; refine (rsectors_no _ _ _ hm).mono ?_; rintro e w' ⟨rfl, hd⟩)
    go_ret
    exact ⟨ret_int H.out, by repeat (first | exact Dr.refl _ | assumption | refine Dr.add ?_ | refine Dr.trans ?_ (by assumption))⟩
  · have H : Hid (acrossF a * acrossF b = countF a b) := hide (by unfold countF; rw [if_pos hm])
    have hp := across_mul hm
    go_enter Tryz.func9, Tryz.ntmps9
    go_wp2_with (go_at_call 31; refine (rsectors_yes _ _ _ hm).mono ?_; rintro e w' ⟨rfl, hd⟩)
    go_ret
    exact ⟨ret_int H.out, by repeat (first | exact Dr.refl _ | assumption | refine Dr.add ?_ | refine Dr.trans ?_ (by assumption))⟩

theorem count_iff (a b s : Int) : isSectorB a b s = true ↔ 0 ≤ s ∧ s ≤ countF a b - 1 := by
  unfold countF
  cases hm : mayB a b
  · simp [isSectorB, hm]; omega
  · simp [isSectorB, hm]; omega
theorem count_bd (a b : Int) : 0 ≤ countF a b ∧ countF a b ≤ 4096 := by
  unfold countF
  split
  · rename_i h; have := across_mul h; omega
  · omega

set_option maxHeartbeats 1000000 in
theorem rsize_yes (a b s : Int) (w : World) (hs : isSectorB a b s = true) :
    Calls Tryz.prog 69 #[.int .i64 a, .int .i64 b, .int .i64 s] w fun e w' => e = .returned (.tuple #[.int .i64 (twF a s), .int .i64 (thF a b s)]) ∧ Dr w w' := by
  obtain ⟨hm, s1, s2⟩ := (isSectorB_iff a b s).1 hs
  obtain ⟨m1, m2, m3, m4⟩ := (mayB_iff a b).1 hm
  have hb := across_bd m1 m2
  have hb' := across_bd m3 m4
  obtain ⟨t1, t2, t3, t4, t5⟩ := sector_bd hs
  have cb := count_bd a b
  have k := (count_iff a b s).1 hs
  have hz : ¬ acrossF a = 0 := by omega
  clear t5 s2
  go_enter Tryz.func69, Tryz.ntmps69
  go_wp2_with (first | (go_at_call 73; (first | refine (in_yes _ _ _ _ (by omega) (by omega)).mono ?_ | refine (in_no _ _ _ _ (by omega)).mono ?_); rintro e w' ⟨rfl, hd⟩) | (go_at_call 9; refine (rcount_any _ _ _).mono ?_; rintro e w' ⟨rfl, hd⟩) | (go_at_call 31; refine (rsectors_yes _ _ _ hm).mono ?_; rintro e w' ⟨rfl, hd⟩))
  go_region
  all_goals go_wp2
  all_goals
    go_ret2
    exact ⟨ret_int2 (by unfold twF; omega) (by unfold thF; omega), by repeat (first | exact Dr.refl _ | assumption | refine Dr.add ?_ | refine Dr.drew ?_ | refine Dr.trans ?_ (by assumption))⟩

set_option maxHeartbeats 400000 in
theorem rsize_no (a b s : Int) (w : World) (hs : isSectorB a b s = false) :
    Calls Tryz.prog 69 #[.int .i64 a, .int .i64 b, .int .i64 s] w fun e w' => e = .returned (.tuple #[.int .i64 0, .int .i64 0]) ∧ Dr w w' := by
  have cb := count_bd a b
  have k : s < 0 ∨ countF a b - 1 < s := by
    have n : ¬ (0 ≤ s ∧ s ≤ countF a b - 1) := fun h => by rw [(count_iff a b s).2 h] at hs; cases hs
    omega
  go_enter Tryz.func69, Tryz.ntmps69
  go_wp2_with (first | (go_at_call 73; (first | refine (in_yes _ _ _ _ (by omega) (by omega)).mono ?_ | refine (in_no _ _ _ _ (by omega)).mono ?_); rintro e w' ⟨rfl, hd⟩) | (go_at_call 9; refine (rcount_any _ _ _).mono ?_; rintro e w' ⟨rfl, hd⟩))
  go_ret2
  exact ⟨rfl, by repeat (first | exact Dr.refl _ | assumption | refine Dr.add ?_ | refine Dr.trans ?_ (by assumption))⟩

set_option maxHeartbeats 1000000 in
theorem rlocal_yes (a b c : Int) (w : World) (hc : isCellB a b c = true) :
    Calls Tryz.prog 48 #[.int .i64 a, .int .i64 b, .int .i64 c] w fun e w' => e = .returned (.int .i64 (localF a c)) ∧ Dr w w' := by
  obtain ⟨hm, c1, c2⟩ := (isCellB_iff a b c).1 hc
  obtain ⟨m1, m2, m3, m4⟩ := (mayB_iff a b).1 hm
  obtain ⟨e1, e2, hs⟩ := sectorF_mod hc
  obtain ⟨_, s1, s2⟩ := (isSectorB_iff a b _).1 hs
  have hb := across_bd m1 m2
  have sm := across_mul hm
  have pm := may_mul hm
  obtain ⟨p1, p2, p3, p4, p5⟩ := place_bd hc
  obtain ⟨u1, u2, u3, u4, u5, u6⟩ := size_bd hs
  obtain ⟨t1, t2, t3, t4, t5⟩ := sector_bd hs
  have hy : c / a - 16 * (sectorF a c / acrossF a) = c / a % 16 := by rw [e2]; omega
  have hx : c % a - 16 * (sectorF a c % acrossF a) = c % a % 16 := by rw [e1]; omega
  have mb := mul_bd (w := c / a - 16 * (sectorF a c / acrossF a)) (h := twF a (sectorF a c)) (W := 64) (H := 64) (by omega) (by omega) (by omega) (by omega)
  have H : Hid ((c / a - 16 * (sectorF a c / acrossF a)) * twF a (sectorF a c) + c % a - 16 * (sectorF a c % acrossF a) = localF a c) :=
    hide (by unfold localF; rw [← hx, ← hy]; omega)
  have hz : ¬ a = 0 := by omega
  have hz2 : ¬ acrossF a = 0 := by omega
  have s3 : sectorF a c ≤ 4096 := by omega
  have c3 : c ≤ 1048576 := by omega
  have s4 : ¬ sectorF a c < 0 := by omega
  have hy' : 0 ≤ c / a - 16 * (sectorF a c / acrossF a) ∧ c / a - 16 * (sectorF a c / acrossF a) ≤ 16 := by omega
  clear p5 t5 e1 e2 c2 s2 sm pm hx hy
  go_enter Tryz.func48, Tryz.ntmps48
  go_wp2_with (first | (go_at_call 45; refine (rsector_yes _ _ _ _ hc).mono ?_; rintro e w' ⟨rfl, hd⟩) | (go_at_call 31; refine (rsectors_yes _ _ _ hm).mono ?_; rintro e w' ⟨rfl, hd⟩) | (go_at_call 69; refine (rsize_yes _ _ _ _ hs).mono ?_; rintro e w' ⟨rfl, hd⟩))
  go_quiet (fail)
  go_wp2
  go_ret
  exact ⟨ret_int H.out, by repeat (first | exact Dr.refl _ | assumption | refine Dr.add ?_ | refine Dr.trans ?_ (by assumption))⟩

set_option maxHeartbeats 400000 in
theorem rlocal_no (a b c : Int) (w : World) (hc : isCellB a b c = false) :
    Calls Tryz.prog 48 #[.int .i64 a, .int .i64 b, .int .i64 c] w fun e w' => e = .returned (.int .i64 (-1)) ∧ Dr w w' := by
  go_enter Tryz.func48, Tryz.ntmps48
  go_wp2_with (go_at_call 45; refine (rsector_no _ _ _ _ hc).mono ?_; rintro e w' ⟨rfl, hd⟩)
  go_ret
  exact ⟨rfl, by repeat (first | exact Dr.refl _ | assumption | refine Dr.add ?_ | refine Dr.trans ?_ (by assumption))⟩

set_option maxHeartbeats 1000000 in
theorem rglobal_yes (a b s l : Int) (w : World) (hs : isSectorB a b s = true) (h0 : 0 ≤ l) (h1 : l < twF a s * thF a b s) :
    Calls Tryz.prog 70 #[.int .i64 a, .int .i64 b, .int .i64 s, .int .i64 l] w fun e w' => e = .returned (.int .i64 (globalF a s l)) ∧ Dr w w' := by
  obtain ⟨hm, s1, s2⟩ := (isSectorB_iff a b s).1 hs
  have sm := across_mul hm
  obtain ⟨m1, m2, m3, m4⟩ := (mayB_iff a b).1 hm
  have hb := across_bd m1 m2
  obtain ⟨u1, u2, u3, u4, u5, u6⟩ := size_bd hs
  obtain ⟨t1, t2, t3, t4, t5⟩ := sector_bd hs
  obtain ⟨l1, l2, l3, l4, l5⟩ := local_bd hs h0 h1
  have lm := localB_mul hs
  have hz : ¬ twF a s = 0 := by omega
  have hz2 : ¬ acrossF a = 0 := by omega
  have s3 : s ≤ 4096 := by omega
  have mb := mul_bd (w := 16 * (s / acrossF a) + l / twF a s) (h := a) (W := 1024) (H := 1024) (by omega) (by omega) (by omega) (by omega)
  have H : Hid ((16 * (s / acrossF a) + l / twF a s) * a + 16 * (s % acrossF a) + l % twF a s = globalF a s l) :=
    hide (by unfold globalF; rw [Int.mul_comm 16 (s / acrossF a)]; omega)
  clear l5 t5 s2 sm
  go_enter Tryz.func70, Tryz.ntmps70
  go_wp2_with (first | (go_at_call 73; (first | refine (in_yes _ _ _ _ (by omega) (by omega)).mono ?_ | refine (in_no _ _ _ _ (by omega)).mono ?_); rintro e w' ⟨rfl, hd⟩) | (go_at_call 69; refine (rsize_yes _ _ _ _ hs).mono ?_; rintro e w' ⟨rfl, hd⟩) | (go_at_call 31; refine (rsectors_yes _ _ _ hm).mono ?_; rintro e w' ⟨rfl, hd⟩))
  have l6 : l ≤ 256 := by omega
  clear h1 lm
  go_quiet (fail)
  go_wp2
  go_ret
  exact ⟨ret_int H.out, by repeat (first | exact Dr.refl _ | assumption | refine Dr.add ?_ | refine Dr.trans ?_ (by assumption))⟩

set_option maxHeartbeats 1000000 in
theorem rglobal_no (a b s l : Int) (w : World) (hs : isSectorB a b s = true) (h : l < 0 ∨ twF a s * thF a b s ≤ l) :
    Calls Tryz.prog 70 #[.int .i64 a, .int .i64 b, .int .i64 s, .int .i64 l] w fun e w' => e = .returned (.int .i64 (-1)) ∧ Dr w w' := by
  have sb := size_bd hs
  have lm := localB_mul hs
  go_enter Tryz.func70, Tryz.ntmps70
  go_wp2_with (first | (go_at_call 73; (first | refine (in_yes _ _ _ _ (by omega) (by omega)).mono ?_ | refine (in_no _ _ _ _ (by omega)).mono ?_); rintro e w' ⟨rfl, hd⟩) | (go_at_call 69; refine (rsize_yes _ _ _ _ hs).mono ?_; rintro e w' ⟨rfl, hd⟩))
  go_ret
  exact ⟨rfl, by repeat (first | exact Dr.refl _ | assumption | refine Dr.add ?_ | refine Dr.trans ?_ (by assumption))⟩

set_option maxHeartbeats 1000000 in
theorem rglobal_none (a b s l : Int) (w : World) (hs : isSectorB a b s = false) :
    Calls Tryz.prog 70 #[.int .i64 a, .int .i64 b, .int .i64 s, .int .i64 l] w fun e w' => e = .returned (.int .i64 (-1)) ∧ Dr w w' := by
  by_cases h : l < 0
  all_goals
    go_enter Tryz.func70, Tryz.ntmps70
    go_wp2_with (first | (go_at_call 73; (first | refine (in_yes _ _ _ _ (by omega) (by omega)).mono ?_ | refine (in_no _ _ _ _ (by omega)).mono ?_); rintro e w' ⟨rfl, hd⟩) | (go_at_call 69; refine (rsize_no _ _ _ _ hs).mono ?_; rintro e w' ⟨rfl, hd⟩))
    go_ret
    exact ⟨rfl, by repeat (first | exact Dr.refl _ | assumption | refine Dr.add ?_ | refine Dr.trans ?_ (by assumption))⟩

/-- Of what was there in w nothing has turned. -/
def Gr (w w' : World) : Prop := Below w.heap.size w w'
theorem Gr.refl (w : World) : Gr w w := Below.refl _ _
theorem Gr.size {a b : World} (h : Gr a b) : a.heap.size ≤ b.heap.size := Below.size h
theorem Gr.trans {a b c : World} (h : Gr a b) (g : Gr b c) : Gr a c := Below.trans (B := a.heap.size) h (Below.mono g h.size)
theorem Gr.alloc {a w : World} (h : Gr a w) (o : Obj) : Gr a (w.alloc o) := Below.alloc h h.size o
theorem Gr.drew {a w : World} (h : Gr a w) : Gr a w.drew := Below.drew h
theorem Gr.drewN {a w : World} (h : Gr a w) (n : Nat) : Gr a (w.drewN n) := by
  induction n with
  | zero => exact h
  | succ k ih => exact ih.drew
theorem Dr.gr {w w' : World} (h : Dr w w') : Gr w w' := by
  obtain ⟨m, rfl⟩ := h
  exact (Gr.refl _).drewN m
theorem Gr.set {a w : World} (h : Gr a w) {p : Addr} (hp : a.heap.size ≤ p.block) (v : Value) : Gr a (w.setCell p v) := Below.setCell h hp v
theorem Gr.grown {a w w' : World} {row : Option Nat} (h : Gr a w) (hg : w.grownBy w' row) (hr : ∀ k, row = some k → a.heap.size ≤ k) : Gr a w' := Below.grown h hg h.size hr
theorem Gr.cell {w w' : World} (h : Gr w w') (b o : Nat) (hb : b < w.heap.size) : w'.cell? ⟨b, o, none⟩ = w.cell? ⟨b, o, none⟩ := Below.cell (p := ⟨b, o, none⟩) h hb
theorem Gr.frozen {w w' : World} (h : Gr w w') (b o : Nat) (hb : b < w.heap.size) : w'.frozen? ⟨b, o, none⟩ = w.frozen? ⟨b, o, none⟩ := Below.frozen (p := ⟨b, o, none⟩) h hb
/-- what the walk is told of old cells behind a call -/
theorem Gr.old {w w' : World} (h : Gr w w') : (∀ b o, b < w.heap.size → w'.cell? ⟨b, o, none⟩ = w.cell? ⟨b, o, none⟩) ∧ (∀ b o, b < w.heap.size → w'.frozen? ⟨b, o, none⟩ = w.frozen? ⟨b, o, none⟩) ∧ w.heap.size ≤ w'.heap.size :=
  ⟨h.cell, h.frozen, h.size⟩

/-- The slice at a, of n bytes, reads as f. -/
structure Sl (w : World) (a : Option Addr) (n : Nat) (f : Nat → Int) : Prop where
  byte : ∀ i, i < n → 0 ≤ f i ∧ f i ≤ 255
  has : n = 0 ∨ ∃ b o, a = some ⟨b, o, none⟩ ∧ b < w.heap.size ∧ ∀ i, i < n → w.cell? ⟨b, o + i, none⟩ = some (.int .u8 (f i))
theorem Sl.gr {w w' : World} {a : Option Addr} {n : Nat} {f : Nat → Int} (h : Sl w a n f) (g : Gr w w') : Sl w' a n f := by
  refine ⟨h.byte, ?_⟩
  rcases h.has with h0 | ⟨b, o, rfl, hb, hc⟩
  · exact .inl h0
  · exact .inr ⟨b, o, rfl, Nat.lt_of_lt_of_le hb g.size, fun i hi => by rw [g.cell b _ hb]; exact hc i hi⟩
theorem Sl.congr {w : World} {a : Option Addr} {n : Nat} {f g : Nat → Int} (h : Sl w a n f) (e : ∀ i, i < n → f i = g i) : Sl w a n g := by
  refine ⟨fun i hi => by rw [← e i hi]; exact h.byte i hi, ?_⟩
  rcases h.has with h0 | ⟨b, o, rfl, hb, hc⟩
  · exact .inl h0
  · exact .inr ⟨b, o, rfl, hb, fun i hi => by rw [← e i hi]; exact hc i hi⟩
theorem Sl.at {w : World} {a : Option Addr} {n : Nat} {f : Nat → Int} (h : Sl w a n f) (hn : 0 < n) : ∃ b o, a = some ⟨b, o, none⟩ ∧ b < w.heap.size ∧ ∀ i, i < n → w.cell? ⟨b, o + i, none⟩ = some (.int .u8 (f i)) := by
  rcases h.has with h0 | h1
  · omega
  · exact h1
/-- none of the bytes is 0 -/
def fullB (n : Nat) (f : Nat → Int) : Bool := decide (∀ i, i < n → f i ≠ 0)
theorem fullB_iff (n : Nat) (f : Nat → Int) : fullB n f = true ↔ ∀ i, i < n → f i ≠ 0 := by simp [fullB]
theorem fullB_false (n : Nat) (f : Nat → Int) : fullB n f = false ↔ ∃ i, i < n ∧ f i = 0 := by simp [fullB]

/-- the bytes of a slice, as a list -/
def lst (n : Nat) (f : Nat → Int) : List Int := (List.range n).map f
theorem lst_len (n : Nat) (f : Nat → Int) : (lst n f).length = n := by simp [lst]
theorem lst_get (n : Nat) (f : Nat → Int) {i : Nat} (h : i < n) : (lst n f).getD i 0 = f i := by simp [lst, h]
theorem lst_get? (n : Nat) (f : Nat → Int) {i : Nat} (h : i < n) : (lst n f)[i]? = some (f i) := by simp [lst, h]

theorem byte_eq {x y : Int} (hx : 0 ≤ x ∧ x ≤ 255) (hy : 0 ≤ y ∧ y ≤ 255) : x.toNat.toUInt8 = y.toNat.toUInt8 ↔ x = y := by
  constructor
  · intro h
    have := congrArg UInt8.toNat h
    simp only [Nat.toUInt8, UInt8.toNat_ofNat'] at this
    omega
  · rintro rfl; rfl

theorem ib_neg (c : UInt8) : ∀ l : List UInt8, Lib.indexByte l c < 0 ↔ ∀ x ∈ l, x ≠ c
  | [] => by simp [Lib.indexByte]
  | b :: l => by
    have ih := ib_neg c l
    have g := Lib.indexByte_ge l c
    unfold Lib.indexByte
    by_cases hb : b = c
    · simp [hb]
    · simp only [beq_iff_eq, hb, if_false, List.mem_cons, forall_eq_or_imp, ne_eq, not_false_eq_true, true_and]
      split <;> rename_i h
      · rw [← ne_eq] at *
        constructor
        · intro _; exact ih.1 (by omega)
        · intro _; omega
      · constructor
        · intro k; omega
        · intro k; have := ih.2 k; omega
theorem indexByte_neg (n : Nat) (f : Nat → Int) (hb : ∀ i, i < n → 0 ≤ f i ∧ f i ≤ 255) : decide (Lib.indexByte (Lib.bytesOf (lst n f)) (0 : Int).toNat.toUInt8 < 0) = fullB n f := by
  unfold fullB
  rw [decide_eq_decide, ib_neg]
  constructor
  · intro h i hi e
    refine h (UInt8.ofNat (f i).toNat) ?_ (by rw [e])
    simp only [Lib.bytesOf, lst, List.map_map, List.mem_map, List.mem_range]
    exact ⟨i, hi, rfl⟩
  · intro h x hx
    simp only [Lib.bytesOf, lst, List.map_map, List.mem_map, List.mem_range] at hx
    obtain ⟨i, hi, rfl⟩ := hx
    intro e
    exact h i hi ((byte_eq (hb i hi) (by omega)).1 e)

/-- the entry internal/bytealg.IndexByte at such a slice -/
theorem run_index0 {P : Program} {w : World} {a : Option Addr} {n : Nat} {f : Nat → Int} (h : Sl w a n f) (cap : Nat) :
    ∃ r : Int, (Extern.BytealgIndexByte.indexByte #[.slice a n cap, .int .u8 0]).run P w = .ok (.int .i64 r) w ∧ decide (r < 0) = fullB n f := by
  cases a with
  | none =>
    refine ⟨-1, Lib.run_indexByteNil w n cap 0, ?_⟩
    rcases h.has with h0 | ⟨b, o, e, _⟩
    · subst h0; simp [fullB]
    · cases e
  | some x =>
    rcases h.has with h0 | ⟨b, o, e, _, hc⟩
    · subst h0
      refine ⟨-1, ?_, by simp [fullB]⟩
      have hs := Lib.run_indexByteString (P := P) .empty 0 w
      exact hs
    · cases e
      exact ⟨_, Lib.run_indexByteSlice w b o n cap (lst n f) (lst_len n f) (fun i hi => by rw [lst_get n f hi]; exact hc i hi) 0, indexByte_neg n f h.byte⟩

set_option maxHeartbeats 400000 in
set_option maxRecDepth 20000 in
theorem indexByte_any (a : Option Addr) (n cap : Nat) (f : Nat → Int) (w : World) (h : Sl w a n f) :
    Calls Tryz.prog 76 #[.slice a n cap, .int .u8 0] w fun e w' => (∃ r, e = .returned (.int .i64 r) ∧ decide (r < 0) = fullB n f) ∧ w' = w := by
  obtain ⟨r, hr, hd⟩ := run_index0 (P := Tryz.prog) h cap
  have HR := hide hr
  have HD := hide hd
  clear hr hd
  go_enter Tryz.func76, Tryz.ntmps76
  go_wp2
  rw [run_callFunc_extern Tryz.func87 (by kernel_rfl) (by kernel_rfl) (by kernel_rfl) (e := Extern.BytealgIndexByte.indexByte) (by kernel_rfl), HR.out]
  simp only [Result.andThen]
  rw [Oper.upon_value]
  go_wp2
  go_ret
  exact ⟨⟨r, rfl, HD.out⟩, rfl⟩

/-- A slice of integers that came in: nil; or a row of 'cap' cells, the numbers 'zs', of which the first 'len' are its elements. -/
def IsRow (k : IntKind) (w : World) (a : Option Addr) (len cap : Nat) (zs : List Int) : Prop :=
  (a = none ∧ len = 0 ∧ cap = 0 ∧ zs = []) ∨
  ∃ x, a = some x ∧ len ≤ cap ∧ cap ≤ maxLen ∧ zs.length = cap ∧ (∀ i, i < zs.length → w.cell? (x.add i) = some (.int k (zs.getD i 0))) ∧ ∀ n ∈ zs, (Lit.int k n).wf = true

/-- its bytes by the index -/
def byF (zs : List Int) (i : Nat) : Int := zs.getD i 0
theorem IsRow.sl {w : World} {a : Option Addr} {len cap : Nat} {zs : List Int} (h : IsRow .u8 w a len cap zs) : Sl w a len (byF zs) := by
  rcases h with ⟨rfl, rfl, rfl, rfl⟩ | ⟨x, rfl, hl, hm, hz, hc, hw⟩
  · exact ⟨fun i hi => absurd hi (Nat.not_lt_zero _), .inl rfl⟩
  · refine ⟨fun i hi => ?_, ?_⟩
    · have := range_u8 hw i
      rw [← List.getD_eq_getElem?_getD] at this
      exact this
    · by_cases h0 : len = 0
      · exact .inl h0
      · obtain ⟨b, o, rfl, hc'⟩ := ints_at hc (by omega)
        refine .inr ⟨b, o, rfl, ?_, fun i hi => hc' i (by omega)⟩
        exact World.block_lt_of_cell? w ⟨b, o + 0, none⟩ (hc' 0 (by omega))
theorem IsRow.len {k : IntKind} {w : World} {a : Option Addr} {len cap : Nat} {zs : List Int} (h : IsRow k w a len cap zs) : len ≤ maxLen := by
  rcases h with ⟨rfl, rfl, rfl, rfl⟩ | ⟨x, rfl, hl, hm, hz, hc, hw⟩
  · exact Nat.zero_le _
  · omega
theorem IsRow.nil {k : IntKind} {w : World} {a : Option Addr} {len cap : Nat} {zs : List Int} (h : IsRow k w a len cap zs) : a = none → len = 0 ∧ cap = 0 := by
  rcases h with ⟨rfl, rfl, rfl, rfl⟩ | ⟨x, rfl, hl, hm, hz, hc, hw⟩
  · intro _; exact ⟨rfl, rfl⟩
  · intro e; cases e

end Go.Proofs.YtgbadbkipaccgaaGreat
