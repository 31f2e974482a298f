/- What bytes.Clone, bytes.Equal, tile.With, tile.Same, tile.Open answer. -/
import Derived.Test.YtafghafdapiadaaTOwn
namespace Go.Proofs.Ytafghafdapiadaa
open Go.RowKit

set_option maxHeartbeats 1000000 in
theorem equal_any (a b : Option Addr) (n c m d : Nat) (f g : Nat → Int) (w : World) (h : Sl w a n f) (k : Sl w b m g) :
    Calls Try.prog 34 #[.slice a n c, .slice b m d] w fun e w' => e = .returned (.bool (sameB n f m g)) ∧ w' = w := by
  have h1 := run_conv h c
  have h2 := run_conv k d
  go_enter Try.func34, Try.ntmps34
  go_wp2
  go_ret
  exact ⟨ret_bool (strF_dec h.byte k.byte), rfl⟩

set_option maxHeartbeats 2000000 in
theorem clone_any (a : Option Addr) (n c : Nat) (f : Nat → Int) (w : World) (h : Sl w a n f) (hn : 0 < n) (hbig : n ≤ 140737488355328) :
    Calls Try.prog 31 #[.slice a n c] w fun e w' => (∃ g c', e = .returned (.slice (some ⟨g, 0, none⟩) n c') ∧ w'.ownsRow w.heap.size 5 1 (.slice (some ⟨g, 0, none⟩) n c') n (cel .u8 n f) ∧ w.heap.size ≤ g) ∧ Gr w w' := by
  obtain ⟨i0, hi, hz0, hz1, hz2⟩ := info_parts info_u8
  have q22 : ∀ (w : World) (a : Option Addr) (n c n' c' : Nat), (binOp .eql 22 (.slice a n c) (.slice none n' c')).run Try.prog w = .ok (.bool a.isNone) w := fun w a n c n' c' => Lib.run_eql_slice_nil w _ _ a n c n' c' Try.underlying22
  obtain ⟨b, o, rfl, hB, hc⟩ := h.at hn
  have HC := hide hc
  clear hc
  go_enter Try.func31, Try.ntmps31
  go_wp2_with (at_builtin; refine wpList_append_own _ rfl _ _ 22 rfl w.heap.size 5 i0 (.int .u8 0) 1 1 Try.underlying22 hi hz0 hz1 hz2 rfl (by decide) _ _ _ rfl (World.ownsRow_made w #[] 0 (Nat.le_refl _) (Nat.zero_le _) rfl) ⟨b, o, none⟩ n c (cel .u8 n f) rfl ?qc1 ?qc2 (cel_one _ _ _) ?qc4 ?qc5 ?qc6 ?_)
  case qc1 => simp [cel_len]
  case qc2 =>
    intro j u hj
    have hjn : j < n := by
      have := (List.getElem?_eq_some_iff.1 hj).1
      rw [cel_len] at this
      exact this
    have e : (⟨b, o, none⟩ : Addr).add j = ⟨b, o + j, none⟩ := by unfold Addr.add; split <;> simp_all
    rw [cel_get _ _ _ hjn] at hj
    rw [e, ((Gr.refl w).alloc _).cell b _ hB, HC.out j hjn]
    exact hj
  case qc4 => unfold maxLen; omega
  case qc5 => omega
  case qc6 => simp
  intro v' w1 hown hgrow hnil
  obtain ⟨a', c', rfl, _, _, hh⟩ := own_form hown
  rcases hh with hh | ⟨g, rfl, hge, _, _⟩
  · omega
  go_wp2
  go_ret
  refine ⟨⟨g, c', rfl, hown, hge⟩, ?_⟩
  exact Gr.grown ((Gr.refl w).alloc _) hgrow (by intro k hk; simp [Value.ownBlock] at hk; omega)

/-- two tiles are the same -/
def sameTB (W H : Int) (n : Nat) (f : Nat → Int) (W' H' : Int) (m : Nat) (g : Nat → Int) : Bool := decide (W = W') && decide (H = H') && sameB n f m g

set_option maxHeartbeats 1000000 in
theorem tsame_any (W H W' H' : Int) (a b : Option Addr) (n c m d : Nat) (f g : Nat → Int) (w : World) (h : Sl w a n f) (k : Sl w b m g) :
    Calls Try.prog 23 #[.agg #[.int .i64 W, .int .i64 H, .slice a n c], .agg #[.int .i64 W', .int .i64 H', .slice b m d]] w fun e w' => e = .returned (.bool (sameTB W H n f W' H' m g)) ∧ Gr w w' := by
  by_cases h1 : W = W'
  · have t1 : (W == W') = true := by simp [h1]
    by_cases h2 : H = H'
    · have t2 : (H == H') = true := by simp [h2]
      have H1 := hide h1
      have H2 := hide h2
      clear h1 h2
      go_enter Try.func23, Try.ntmps23
      go_wp2_with (go_at_call 34; refine (equal_any _ _ _ _ _ _ f g _ (h.gr (by repeat (first | exact Gr.refl _ | assumption | exact Dr.gr (by assumption) | refine Gr.alloc ?_ _ | refine Gr.drewN ?_ _ | refine Gr.drew ?_ | refine Gr.trans ?_ (by assumption) | refine Gr.trans ?_ (Dr.gr (by assumption))))) (k.gr (by repeat (first | exact Gr.refl _ | assumption | exact Dr.gr (by assumption) | refine Gr.alloc ?_ _ | refine Gr.drewN ?_ _ | refine Gr.drew ?_ | refine Gr.trans ?_ (by assumption) | refine Gr.trans ?_ (Dr.gr (by assumption)))))).mono ?_; rintro e w' ⟨rfl, rfl⟩)
      go_ret
      exact ⟨ret_bool (by simp [sameTB, H1.out, H2.out]), (by repeat (first | exact Gr.refl _ | assumption | exact Dr.gr (by assumption) | refine Gr.alloc ?_ _ | refine Gr.drewN ?_ _ | refine Gr.drew ?_ | refine Gr.trans ?_ (by assumption) | refine Gr.trans ?_ (Dr.gr (by assumption))))⟩
    · have t2 : (H == H') = false := by simp [h2]
      have H1 := hide h1
      have H2 := hide h2
      clear h1 h2
      go_enter Try.func23, Try.ntmps23
      go_wp2
      go_ret
      exact ⟨ret_bool (by simp [sameTB, H2.out]), (by repeat (first | exact Gr.refl _ | assumption | exact Dr.gr (by assumption) | refine Gr.alloc ?_ _ | refine Gr.drewN ?_ _ | refine Gr.drew ?_ | refine Gr.trans ?_ (by assumption) | refine Gr.trans ?_ (Dr.gr (by assumption))))⟩
  · have t1 : (W == W') = false := by simp [h1]
    have H1 := hide h1
    clear h1
    go_enter Try.func23, Try.ntmps23
    go_wp2
    go_ret
    exact ⟨ret_bool (by simp [sameTB, H1.out]), (by repeat (first | exact Gr.refl _ | assumption | exact Dr.gr (by assumption) | refine Gr.alloc ?_ _ | refine Gr.drewN ?_ _ | refine Gr.drew ?_ | refine Gr.trans ?_ (by assumption) | refine Gr.trans ?_ (Dr.gr (by assumption))))⟩

/-- f with x at j -/
def upd (f : Nat → Int) (j : Nat) (x : Int) : Nat → Int := fun i => if i = j then x else f i

theorem with_end {w2 : World} {base g n c' B : Nat} {f : Nat → Int} (hown : w2.ownsRow base 5 1 (.slice (some ⟨g, 0, none⟩) n c') n (cel .u8 n f)) (hB : B < base) (hf : ∀ i, i < n → 0 ≤ f i ∧ f i ≤ 255) {k : Nat} {x : Int} (hx : 0 ≤ x ∧ x ≤ 255) (v0 v1 v2 : Value) :
    n ≤ c' ∧ c' ≤ maxLen ∧ Sl ((((w2.setCell ⟨g, k, none⟩ (.int .u8 x)).setCell ⟨B, 0, none⟩ v0).setCell ⟨B, 1, none⟩ v1).setCell ⟨B, 2, none⟩ v2) (some ⟨g, 0, none⟩) n (upd f k x) := by
  have h1 := (hown.stored k (.int .u8 x)).1
  rw [cel_set] at h1
  have h2 := ownsRow_setCell_below (ownsRow_setCell_below (ownsRow_setCell_below h1 (a := ⟨B, 0, none⟩) hB v0) (a := ⟨B, 1, none⟩) hB v1) (a := ⟨B, 2, none⟩) hB v2
  obtain ⟨a, cap, e, q1, q2, q3⟩ := Sl.of_own (f := upd f k x) h2 (fun i hi => by unfold upd; split; exact hx; exact hf i hi)
  simp only [Value.slice.injEq] at e
  obtain ⟨rfl, _, rfl⟩ := e
  exact ⟨q1, q2, q3⟩

set_option maxHeartbeats 2000000 in
theorem with_no (W H : Int) (a : Option Addr) (n cap : Nat) (f : Nat → Int) (l x : Int) (w : World) (h : Sl w a n f) (hl : isLocB W H n f l = false ∨ x < 1 ∨ 255 < x) :
    Calls Try.prog 20 #[.agg #[.int .i64 W, .int .i64 H, .slice a n cap], .int .i64 l, .int .i64 x] w fun e w' => e = .returned (.tuple #[.agg #[.int .i64 0, .int .i64 0, .slice none 0 0], .bool false]) ∧ Gr w w' := by
  cases hl' : isLocB W H n f l
  · clear hl
    go_enter Try.func20, Try.ntmps20
    go_wp2_with (go_at_call 27; refine (isLocal_any _ _ _ _ _ f _ _ (h.gr (by repeat (first | exact Gr.refl _ | assumption | exact Dr.gr (by assumption) | refine Gr.alloc ?_ _ | refine Gr.drewN ?_ _ | refine Gr.drew ?_ | refine Gr.trans ?_ (by assumption) | refine Gr.trans ?_ (Dr.gr (by assumption)))))).mono ?_; rintro e w' ⟨rfl, hg⟩; rw [hl']; obtain ⟨ho, hf, hs⟩ := hg.old)
    exact bodyPost_ret (v := .tuple #[.agg #[.int .i64 0, .int .i64 0, .slice none 0 0], .bool false]) (by simp [results, Try.results20, go_sem, ho]) rfl ⟨rfl, (by repeat (first | exact Gr.refl _ | assumption | exact Dr.gr (by assumption) | refine Gr.alloc ?_ _ | refine Gr.drewN ?_ _ | refine Gr.drew ?_ | (refine Gr.set ?_ (by first | exact Nat.le_refl _ | exact Nat.le_succ _ | (show _ ≤ _; omega) | (simp only [World.size_alloc] at *; omega)) _) | refine Gr.trans ?_ (by assumption) | refine Gr.trans ?_ (Dr.gr (by assumption))))⟩
  · have hx : x < 1 ∨ 255 < x := by
      rcases hl with hl | hl
      · rw [hl] at hl'; cases hl'
      · exact hl
    clear hl
    rcases hx with hx | hx
    all_goals
      go_enter Try.func20, Try.ntmps20
      go_wp2_with (go_at_call 27; refine (isLocal_any _ _ _ _ _ f _ _ (h.gr (by repeat (first | exact Gr.refl _ | assumption | exact Dr.gr (by assumption) | refine Gr.alloc ?_ _ | refine Gr.drewN ?_ _ | refine Gr.drew ?_ | refine Gr.trans ?_ (by assumption) | refine Gr.trans ?_ (Dr.gr (by assumption)))))).mono ?_; rintro e w' ⟨rfl, hg⟩; rw [hl']; obtain ⟨ho, hf, hs⟩ := hg.old)
      exact bodyPost_ret (v := .tuple #[.agg #[.int .i64 0, .int .i64 0, .slice none 0 0], .bool false]) (by simp [results, Try.results20, go_sem, ho]) rfl ⟨rfl, (by repeat (first | exact Gr.refl _ | assumption | exact Dr.gr (by assumption) | refine Gr.alloc ?_ _ | refine Gr.drewN ?_ _ | refine Gr.drew ?_ | (refine Gr.set ?_ (by first | exact Nat.le_refl _ | exact Nat.le_succ _ | (show _ ≤ _; omega) | (simp only [World.size_alloc] at *; omega)) _) | refine Gr.trans ?_ (by assumption) | refine Gr.trans ?_ (Dr.gr (by assumption))))⟩

set_option maxHeartbeats 2000000 in
theorem with_yes (W H : Int) (a : Option Addr) (n cap : Nat) (f : Nat → Int) (k : Nat) (x : Int) (w : World) (h : Sl w a n f) (hl : isLocB W H n f k = true) (x1 : 1 ≤ x) (x2 : x ≤ 255) :
    Calls Try.prog 20 #[.agg #[.int .i64 W, .int .i64 H, .slice a n cap], .int .i64 k, .int .i64 x] w fun e w' => (∃ g c', e = .returned (.tuple #[.agg #[.int .i64 W, .int .i64 H, .slice (some ⟨g, 0, none⟩) n c'], .bool true]) ∧ n ≤ c' ∧ c' ≤ maxLen ∧ Sl w' (some ⟨g, 0, none⟩) n (upd f k x)) ∧ Gr w w' := by
  obtain ⟨hm, _, hk⟩ := (isLocB_iff _ _ _ _ _).1 hl
  obtain ⟨n1, n2, _, _⟩ := mayTB_n hm
  have hk : k < n := by omega
  go_enter Try.func20, Try.ntmps20
  go_wp2_with (first | (go_at_call 27; refine (isLocal_any _ _ _ _ _ f _ _ (h.gr (by repeat (first | exact Gr.refl _ | assumption | exact Dr.gr (by assumption) | refine Gr.alloc ?_ _ | refine Gr.drewN ?_ _ | refine Gr.drew ?_ | refine Gr.trans ?_ (by assumption) | refine Gr.trans ?_ (Dr.gr (by assumption)))))).mono ?_; rintro e w' ⟨rfl, hg⟩; rw [hl]; obtain ⟨ho, hf, hs⟩ := hg.old; have hsl := h.gr (Gr.trans (by repeat (first | exact Gr.refl _ | assumption | exact Dr.gr (by assumption) | refine Gr.alloc ?_ _ | refine Gr.drewN ?_ _ | refine Gr.drew ?_ | refine Gr.trans ?_ (by assumption) | refine Gr.trans ?_ (Dr.gr (by assumption)))) hg); have hz1 : w.heap.size < w'.heap.size := (by simp only [World.size_alloc] at hs; omega); have hz2 : w.heap.size + 1 < w'.heap.size := (by simp only [World.size_alloc] at hs; omega)) | (go_at_call 31; refine (clone_any _ _ _ f _ hsl (by omega) (by omega)).mono ?_; rintro e w2 ⟨⟨g, c', rfl, hown, hge⟩, hg2⟩; obtain ⟨ho2, hf2, hs2⟩ := hg2.old; have hck : w2.cell? ⟨g, k, none⟩ = some (.int .u8 (f k)) := (by rw [hown.cellAt k (by omega), cel_get _ _ _ hk]); have hfk := hown.frozenAt k; have hn1 : ¬ g = w.heap.size := (by omega); have hn2 : ¬ w.heap.size = g := (by omega); have hn3 : ¬ g = w.heap.size + 1 := (by omega); have hn4 : ¬ w.heap.size + 1 = g := (by omega)))
  obtain ⟨e1, e2, e3⟩ := with_end (B := w.heap.size + 1) hown (by omega) h.byte (k := k) (x := x) (by omega) (.int .i64 W) (.int .i64 H) (.slice (some ⟨g, 0, none⟩) n c')
  exact bodyPost_ret (v := .tuple #[.agg #[.int .i64 W, .int .i64 H, .slice (some ⟨g, 0, none⟩) n c'], .bool true]) (by simp [results, Try.results20, go_sem, ho, ho2, hz2]) rfl ⟨⟨g, c', rfl, e1, e2, e3⟩, (by repeat (first | exact Gr.refl _ | assumption | exact Dr.gr (by assumption) | refine Gr.alloc ?_ _ | refine Gr.drewN ?_ _ | refine Gr.drew ?_ | (refine Gr.set ?_ (by first | exact Nat.le_refl _ | exact Nat.le_succ _ | (show _ ≤ _; omega) | (simp only [World.size_alloc] at *; omega)) _) | refine Gr.trans ?_ (by assumption) | refine Gr.trans ?_ (Dr.gr (by assumption))))⟩

/-- the locals that are no walls, rising -/
def openL (n : Nat) (f : Nat → Int) : List Nat := (List.range n).filter fun i => f i != 255
theorem openL_yes (n : Nat) (f : Nat → Int) (h : f n ≠ 255) : openL (n + 1) f = openL n f ++ [n] := by simp [openL, List.range_succ, List.filter_append, h]
theorem openL_no (n : Nat) (f : Nat → Int) (h : f n = 255) : openL (n + 1) f = openL n f := by simp [openL, List.range_succ, List.filter_append, h]
theorem openL_le (n : Nat) (f : Nat → Int) : (openL n f).length ≤ n := by
  have := List.length_filter_le (fun i => f i != 255) (List.range n)
  simpa [openL] using this
def openV (n : Nat) (f : Nat → Int) : List Value := (openL n f).map fun i : Nat => Value.int .i64 (i : Int)
/-- the j-th of them -/
def openF (n : Nat) (f : Nat → Int) (j : Nat) : Int := ((openL n f).getD j 0 : Nat)
theorem openV_cel (n : Nat) (f : Nat → Int) : openV n f = cel .i64 (openL n f).length (openF n f) := by
  apply List.ext_getElem?
  intro i
  by_cases hi : i < (openL n f).length
  · rw [cel_get _ _ _ hi]
    simp [openV, openF, hi]
  · have h1 : (openV n f)[i]? = none := by simp [openV]; omega
    rw [h1]; symm; simp [cel_len]; omega

set_option maxHeartbeats 2000000 in
theorem open_no (W H : Int) (a : Option Addr) (n cap : Nat) (f : Nat → Int) (w : World) (h : Sl w a n f) (hm : mayTB W H n f = false) :
    Calls Try.prog 18 #[.agg #[.int .i64 W, .int .i64 H, .slice a n cap]] w fun e w' => e = .returned (.slice none 0 0) ∧ Gr w w' := by
  go_enter Try.func18, Try.ntmps18
  go_wp2_with (go_at_call 13; refine (tmay_any _ _ _ _ _ f _ (h.gr (by repeat (first | exact Gr.refl _ | assumption | exact Dr.gr (by assumption) | refine Gr.alloc ?_ _ | refine Gr.drewN ?_ _ | refine Gr.drew ?_ | refine Gr.trans ?_ (by assumption) | refine Gr.trans ?_ (Dr.gr (by assumption)))))).mono ?_; rintro e w' ⟨rfl, hg⟩; rw [hm]; obtain ⟨ho, hf, hs⟩ := hg.old)
  go_ret
  exact ⟨rfl, (by repeat (first | exact Gr.refl _ | assumption | exact Dr.gr (by assumption) | refine Gr.alloc ?_ _ | refine Gr.drewN ?_ _ | refine Gr.drew ?_ | refine Gr.trans ?_ (by assumption) | refine Gr.trans ?_ (Dr.gr (by assumption))))⟩

theorem alloc_one (w : World) (v : Value) (t : TypeId) : ∀ j u, [v][j]? = some u → (w.alloc (.cells #[v] t)).cell? ((⟨w.heap.size, 0, none⟩ : Addr).add j) = some u := by
  intro j u hj
  match j, hj with
  | 0, hj => simp at hj; subst hj; simp [Addr.add]

set_option maxHeartbeats 2000000 in
theorem open_yes (W H : Int) (a : Option Addr) (n cap : Nat) (f : Nat → Int) (w : World) (h : Sl w a n f) (hm : mayTB W H n f = true) :
    Calls Try.prog 18 #[.agg #[.int .i64 W, .int .i64 H, .slice a n cap]] w fun e w' => (∃ v, e = .returned v ∧ w'.ownsRow w.heap.size 3 1 v (openL n f).length (openV n f)) ∧ Gr w w' := by
  obtain ⟨i0, hi, hz0, hz1, hz2⟩ := info_parts info_int
  obtain ⟨n1, n2, _, _⟩ := mayTB_n hm
  obtain ⟨b, o, rfl, hB, hc⟩ := h.at (by omega)
  have HC := hide hc
  clear hc
  go_enter Try.func18, Try.ntmps18
  go_wp2_with (go_at_call 13; refine (tmay_any _ _ _ _ _ f _ (h.gr (by repeat (first | exact Gr.refl _ | assumption | exact Dr.gr (by assumption) | refine Gr.alloc ?_ _ | refine Gr.drewN ?_ _ | refine Gr.drew ?_ | refine Gr.trans ?_ (by assumption) | refine Gr.trans ?_ (Dr.gr (by assumption)))))).mono ?_; rintro e w' ⟨rfl, hg⟩; rw [hm]; obtain ⟨ho, hf, hs⟩ := hg.old)
  go_loopw [3, 12] (fun v i u => ∃ k : Nat, k ≤ n ∧ i = .int .i64 k ∧ u.ownsRow w.heap.size 3 1 v (openL k f).length (openV k f) ∧ Gr w u) (fun _ i _ => n - (intOf i).toNat)
  case atStart => exact ⟨0, Nat.zero_le _, rfl, by exact World.ownsRow_nil _ _ _ _, (by repeat (first | exact Gr.refl _ | assumption | exact Dr.gr (by assumption) | refine Gr.alloc ?_ _ | refine Gr.drewN ?_ _ | refine Gr.drew ?_ | refine Gr.trans ?_ (by assumption) | refine Gr.trans ?_ (Dr.gr (by assumption))))⟩
  case round =>
    obtain ⟨k, hk, rfl, hown, hgr⟩ := hrel
    by_cases hlt : k < n
    · have hck : wr.cell? ⟨b, o + k, none⟩ = some (.int .u8 (f k)) := by rw [hgr.cell b _ hB]; exact HC.out k hlt
      have hb := h.byte k hlt
      have ol := openL_le k f
      by_cases hw : f k = 255
      · have hw' : (f k != 255) = false := by simp [hw]
        have E : Hid (openL (k + 1) f = openL k f) := hide (openL_no k f hw)
        clear hw
        go_wp2
        go_roundw
        case rel => exact ⟨k + 1, by omega, by go_num, by unfold openV; rw [E.out]; exact hown, hgr⟩
        case measure => simp [intOf]; omega
      · have hw' : (f k != 255) = true := by simp [hw]
        have E : Hid (openL (k + 1) f = openL k f ++ [k]) := hide (openL_yes k f hw)
        clear hw
        have HO := hide hown
        have HG := hide hgr
        clear hown hgr
        go_wp2_with (at_builtin; refine wpList_append_own _ rfl _ _ 28 rfl w.heap.size 3 i0 (.int .i64 0) 1 8 Try.underlying28 hi hz0 hz1 hz2 rfl (by decide) _ _ _ rfl (HO.out.alloc _) ⟨wr.heap.size, 0, none⟩ 1 1 [.int .i64 k] rfl rfl (alloc_one _ _ _) (by simp [Value.oneCell']) (by unfold maxLen; omega) (by omega) (by have := HG.out.size; simp only [World.size_alloc]; omega) ?_; intro v' w1 hown' hgrow hnil)
        go_roundw
        case rel => exact ⟨k + 1, by omega, by go_num, by unfold openV; rw [E.out]; simpa [openV] using hown', Gr.grown (HG.out.alloc _) hgrow (fun q e => (HO.out.lt q e).1)⟩
        case measure => simp [intOf]; omega
    · have hkn : k = n := by omega
      subst hkn
      go_wp2
      go_ret
      exact ⟨⟨_, rfl, hown⟩, hgr⟩

end Go.Proofs.Ytafghafdapiadaa
