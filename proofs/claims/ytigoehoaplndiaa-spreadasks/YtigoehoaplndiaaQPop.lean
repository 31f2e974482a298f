/- What Pop, of a ring in memory, does: the first of the least key goes; or, of none, nothing turns. -/
import Derived.Test.YtigoehoaplndiaaQPut
import Derived.Deep.QuietTactic
import Derived.Test.YtigoehoaplndiaaTMates
namespace Go.Proofs.Ytigoehoaplndiaa
open Go.RowKit
set_option maxRecDepth 20000

set_option maxHeartbeats 1000000 in
theorem least_any {w : World} {p : Nat} {FP : Nat → Prop} {a : Int} {L : List (Int × Int)} (h : Rg w p FP a L) (ha : a ≤ 4611686018427387904) {m : Nat} {k x : Int} (hf : FirstMin L m k x) :
    Calls Try.prog 57 #[.pointer (some ⟨p, 0, none⟩)] w fun e w' => e = .returned (.int .i64 k) ∧ Dr w w' := by
  obtain ⟨gs, vs, h1, h2, h3, h4⟩ := h.mem
  have hlo := h.lo
  have hk := h.near _ hf.mem
  simp only at hk
  have hn := hide h.near
  have hF := hide hf
  have hform : ∀ i, i < 256 → ∃ ai ci, w.cell? ⟨p, 2 + i, none⟩ = some (.slice ai (its L i).length ci) := by
    intro i hi
    obtain ⟨ai, ci, e, -⟩ := (h2 i hi).form
    exact ⟨ai, ci, by rw [h1.cell (i := 2 + i) (by omega), rv_at, e]⟩
  have HW := hide hform
  have c0 : w.cell? ⟨p, 0, none⟩ = some (.int .i64 a) := h.cells.1
  clear h h1 h2 h3 h4 hf hform
  obtain ⟨hk1, hk2⟩ := hk
  go_enter Try.func57, Try.ntmps57
  go_wp2_with fail
  go_loopw [3] (fun t u => ∃ j : Int, a ≤ j ∧ j ≤ k ∧ t = .int .i64 j ∧ Dr w u) (fun t _ => (k + 1 - intOf t).toNat)
  case atStart => exact ⟨a, Int.le_refl _, hk1, rfl, Dr.refl _⟩
  case round =>
    obtain ⟨j, hj1, hj2, rfl, hd⟩ := hrel
    replace c0 := cell_gr c0 hd.gr
    obtain ⟨i, hi⟩ : ∃ i : Nat, j % 256 = (i : Int) := ⟨(j % 256).toNat, by omega⟩
    have hi3 : (i : Int) < 256 := by omega
    obtain ⟨ai, ci, hc⟩ := HW.out i (by omega)
    replace hc := cell_gr hc hd.gr
    have HI := hide hi
    have ht : j < a + 256 := by omega
    by_cases e : j = k
    · have E := hide e
      have hl : (0 : Int) < ((its L i).length : Int) := by
        have := least_full hn.out hF.out (by rw [← e]; exact hi)
        omega
      clear e hi hj2
      go_wp2_with fail
      go_quiet ((go_at_call 59; refine Calls.quiet_of_same (bucket_any _ _ _ (by omega) (by omega) HI.out)))
      go_wp2
      go_ret
      exact ⟨ret_int E.out, by repeat (first | exact Dr.refl _ | assumption | refine Dr.add ?_ | refine Dr.trans ?_ (by assumption))⟩
    · have hl : (its L i).length = 0 := by
        rw [least_empty hn.out hF.out hj1 (by omega) hi]
        rfl
      have hlt : j < k := by omega
      rw [hl] at hc
      clear e hi hj2 hl
      go_wp2_with fail
      go_quiet ((go_at_call 59; refine Calls.quiet_of_same (bucket_any _ _ _ (by omega) (by omega) HI.out)))
      go_wp2
      go_roundw
      case rel => exact ⟨j + 1, by omega, by omega, by go_num, by repeat (first | exact Dr.refl _ | assumption | refine Dr.add ?_ | refine Dr.trans ?_ (by assumption))⟩
      case measure => simp [intOf]; omega

theorem Near.min {a : Int} {L : List (Int × Int)} (hn : Near a L) {m : Nat} {k x : Int} (h : FirstMin L m k x) : Near k L := by
  intro e he
  have r := hn e he
  have s := hn _ h.mem
  simp only at s
  exact ⟨h.2.1 e he, by omega⟩
theorem rv_at0 (a k n : Int) (vs : Nat → Value) : ∀ j, j < 258 → (if j = 0 then Value.int .i64 k else rv a n vs j) = rv k n vs j := by
  intro j _
  unfold rv
  split <;> rfl
/-- the first of the least key is where the ring is -/
theorem Rg.at {w : World} {p : Nat} {FP : Nat → Prop} {a : Int} {L : List (Int × Int)} (h : Rg w p FP a L) {m : Nat} {k x : Int} (hf : FirstMin L m k x) : Rg (w.setCell ⟨p, 0, none⟩ (.int .i64 k)) p FP k L := by
  obtain ⟨gs, vs, h1, h2, h3, h4⟩ := h.mem
  have hk := h.near _ hf.mem
  have hl := h.lo
  simp only at hk
  exact ⟨by omega, h.near.min hf, h.fp, fun b hb => by simpa [World.setCell] using h.lt b hb, gs, vs, (h1.set 0 _).congr (rv_at0 _ _ _ _), fun i hi => (h2 i hi).of_block fun b hb => Below.heap_setCell w _ _ b (h3 i b hi hb).2, h3, h4⟩
theorem Rg.take {w w1 : World} {p : Nat} {FP : Nat → Prop} {k : Int} {L : List (Int × Int)} (h : Rg w p FP k L) {gs : Nat → Option Nat} {vs : Nat → Value}
    (h1 : w.rowIs p 76 258 (rv k L.length vs)) (h2 : ∀ i, i < 256 → Bu w (gs i) (vs i) (its L i)) (h3 : ∀ i b, i < 256 → gs i = some b → FP b ∧ b ≠ p) (h4 : ∀ i j b, i < 256 → j < 256 → gs i = some b → gs j = some b → i = j)
    (hu : Gr w w1) {i m : Nat} {x : Int} (hf : FirstMin L m k x) (hi : k % 256 = (i : Int)) {v' : Value} {g' : Option Nat} (hb : Bu w g' v' (its (L.eraseIdx m) i)) (hg : g' = gs i ∨ g' = none) {n' : Int} (hn : n' = L.length - 1) :
    Rg ((w1.setCell ⟨p, 2 + i, none⟩ v').setCell ⟨p, 1, none⟩ (.int .i64 n')) p FP k (L.eraseIdx m) ∧ Kp FP w ((w1.setCell ⟨p, 2 + i, none⟩ v').setCell ⟨p, 1, none⟩ (.int .i64 n')) := by
  have hi2 : i < 256 := by omega
  have hsz : ((w1.setCell ⟨p, 2 + i, none⟩ v').setCell ⟨p, 1, none⟩ (.int .i64 n')).heap.size = w1.heap.size := by simp [World.setCell]
  have hblk : ∀ b, b ≠ p → ((w1.setCell ⟨p, 2 + i, none⟩ v').setCell ⟨p, 1, none⟩ (.int .i64 n')).heap[b]? = w1.heap[b]? := fun b hb => (Below.heap_setCell _ _ _ b hb).trans (Below.heap_setCell _ _ _ b hb)
  have hlt := hf.lt
  refine ⟨⟨h.lo, h.near.erase hf, h.fp, ?_, fun t => if t = i then g' else gs t, fun t => if t = i then v' else vs t, ?_, ?_, ?_, ?_⟩, ?_⟩
  · intro b hb
    rw [hsz]
    exact Nat.lt_of_lt_of_le (h.lt b hb) (Below.size hu)
  · refine World.rowIs.congr (((row_gr h1 hu).set (2 + i) v').set 1 (.int .i64 n')) ?_
    intro j hj
    have := rv_put k L.length n' vs i v' j hj
    rw [erase_len hf]
    have e : ((L.length - 1 : Nat) : Int) = n' := by omega
    rw [e]
    exact this
  · intro t ht
    by_cases e : t = i
    · subst e
      simp only [if_true]
      exact (hb.gr hu).of_block fun b e => hblk b (by rcases hg with rfl | rfl; exact (h3 t b ht e).2; cases e)
    · dsimp only
      rw [if_neg e, if_neg e]
      have := its_take h.near hf t
      rw [if_neg (by omega)] at this
      rw [← this]
      exact ((h2 t ht).gr hu).of_block fun b hb => hblk b (h3 t b ht hb).2
  · intro t b ht hb
    dsimp only at hb
    by_cases e : t = i
    · rw [if_pos e] at hb
      rcases hg with rfl | rfl
      · exact h3 i b hi2 hb
      · cases hb
    · rw [if_neg e] at hb
      exact h3 t b ht hb
  · intro t s b ht hs hb hc
    dsimp only at hb hc
    have key : ∀ q, q < 256 → (if q = i then g' else gs q) = some b → gs q = some b := by
      intro q hq hh
      by_cases e : q = i
      · rw [if_pos e] at hh
        rcases hg with rfl | rfl
        · rw [e]; exact hh
        · cases hh
      · rwa [if_neg e] at hh
    exact h4 t s b ht hs (key t ht hb) (key s hs hc)
  · exact Kp.set (Kp.set hu.kp (p := ⟨p, 2 + i, none⟩) (.inl h.fp) _) (p := ⟨p, 1, none⟩) (.inl h.fp) _

set_option maxHeartbeats 2000000 in
theorem take_any {w : World} {p : Nat} {FP : Nat → Prop} {L : List (Int × Int)} {m : Nat} {k x : Int} (h : Rg w p FP k L) (hf : FirstMin L m k x) {i : Nat} (hi : k % 256 = (i : Int)) (hL : L.length ≤ 1000000) :
    Calls Try.prog 58 #[.pointer (some ⟨p, 0, none⟩), .int .i64 (i : Int)] w fun e w' => e = .returned (.int .i64 x) ∧ Rg w' p FP k (L.eraseIdx m) ∧ Kp FP w w' := by
  obtain ⟨gs, vs, h1, h2, h3, h4⟩ := h.mem
  have hi2 : i < 256 := by omega
  have hi3 : (i : Int) < 256 := by omega
  have hts := its_take h.near hf i
  rw [if_pos hi] at hts
  have hb := h2 i hi2
  have ci : w.cell? ⟨p, 2 + i, none⟩ = some (vs i) := by rw [h1.cell (i := 2 + i) (by omega), rv_at]
  have c1 : w.cell? ⟨p, 1, none⟩ = some (.int .i64 (L.length : Int)) := h1.cell (i := 1) (by omega)
  have cf := fun j => h1.frozen j
  have hl0 : 0 < L.length := Nat.lt_of_le_of_lt (Nat.zero_le _) hf.lt
  rw [hts] at hb
  have H1 := hide h1
  have H2 := hide h2
  have H3 := hide h3
  have H4 := hide h4
  have HI := hide hi
  clear hi h1 h2 h3 h4 hts
  rcases hb with ⟨_, _, e⟩ | ⟨b, o, c, cur, hgi, hv, hblk, hoc, hlc, hcur⟩
  · cases e
  have cx : w.cell? ⟨b, o, none⟩ = some (.int .i64 x) := by
    have := hcur 0 x rfl
    rw [cell_of_row w b o cur _ _ hblk]
    exact this
  rw [hv] at ci
  obtain ⟨n, hn⟩ : ∃ n, n = (its (L.eraseIdx m) i).length := ⟨_, rfl⟩
  rw [List.length_cons, ← hn] at ci hlc
  have hn' := Nat.le_trans (its_len (L.eraseIdx m) i) (by rw [erase_len hf]; omega : (L.eraseIdx m).length ≤ 1000000)
  rw [← hn] at hn'
  have HBlk := hide hblk
  have HC := hide hcur
  have HV := hide hv
  have HN := hide hn
  clear hblk hcur hv
  by_cases e : n = 0
  · have hbn : Bu w none (.slice none 0 0) (its (L.eraseIdx m) i) := .inl ⟨rfl, rfl, List.eq_nil_of_length_eq_zero (by omega)⟩
    have HBN := hide hbn
    clear hn hbn
    subst e
    go_enter Try.func58, Try.ntmps58
    go_wp2
    go_ret
    exact ⟨rfl, h.take H1.out H2.out H3.out H4.out (Gr.refl _) hf HI.out HBN.out (.inr rfl) rfl⟩
  · have hbn : Bu w (some b) (.slice (some ⟨b, o + 1, none⟩) n (c - 1)) (its (L.eraseIdx m) i) := by
      refine .inr ⟨b, o + 1, c - 1, cur, rfl, by rw [hn], HBlk.out, by omega, by omega, ?_⟩
      intro j y hj
      have := HC.out (j + 1) y (by simpa using hj)
      rw [← this]
      congr 1
      omega
    have HBN := hide hbn
    have HGI := hide hgi
    have he : ((n : Int) + 1 == 1) = false := by simp; omega
    clear hn hbn hgi
    go_enter Try.func58, Try.ntmps58
    go_wp2
    go_region
    all_goals (go_wp2; go_ret; obtain ⟨r1, r2⟩ := h.take H1.out H2.out H3.out H4.out (Gr.refl _) hf HI.out HBN.out (.inl HGI.out.symm) rfl; exact ⟨rfl, r1.gr (Gr.refl _).drew, r2.grb (Gr.refl _).drew⟩)

set_option maxHeartbeats 1000000 in
theorem qpop_yes {w : World} {p : Nat} {FP : Nat → Prop} {a : Int} {L : List (Int × Int)} (h : Rg w p FP a L) (ha : a ≤ 4611686018427387904) {m : Nat} {k x : Int} (hf : FirstMin L m k x) (hL : L.length ≤ 1000000) :
    Calls Try.prog 38 #[.pointer (some ⟨p, 0, none⟩)] w fun e w' => e = .returned (.tuple #[.int .i64 k, .int .i64 x, .bool true]) ∧ Rg w' p FP k (L.eraseIdx m) ∧ Kp FP w w' := by
  have hl : ((L.length : Int) == 0) = false := by have := hf.lt; rw [beq_eq_false_iff_ne]; omega
  have hk := h.near _ hf.mem
  have hlo := h.lo
  simp only at hk
  obtain ⟨i, hi⟩ : ∃ i : Nat, k % 256 = (i : Int) := ⟨(k % 256).toNat, by omega⟩
  have HI := hide hi
  clear hi
  have c0 := h.cells.1
  have cf := h.cells.2.2
  have hk0 : 0 ≤ k := by omega
  have hk1 : k ≤ 9223372036854775807 := by omega
  go_enter Try.func38, Try.ntmps38
  go_wp2_with (first | (go_at_call 56; refine (qlen_any h).mono ?_; rintro e w' ⟨rfl, rfl⟩) | (go_at_call 57; refine (least_any h ha hf).mono ?_; rintro e w2 ⟨rfl, hd2⟩; have d0 := cell_gr c0 hd2.gr; have df := fun j => (Dr.gr hd2).frozen p j (h.lt p h.fp)))
  have hR := (h.gr hd2.gr).at hf
  have hkp : Kp FP w' (w2.setCell ⟨p, 0, none⟩ (.int .i64 k)) := Kp.set hd2.gr.kp (p := ⟨p, 0, none⟩) (.inl h.fp) _
  generalize w2.setCell ⟨p, 0, none⟩ (.int .i64 k) = u at *
  have e0 := hR.cells.1
  clear hl hd2 c0 d0 df cf
  go_region_held3 (fun z => z.cell? ⟨p, 0, none⟩ = some (.int .i64 k)) (first | exact e0 | exact hr9.cells.1) (first | (go_at_call 59; refine (bucket_any _ _ _ hk0 hk1 HI.out).mono ?_; rintro e w9 ⟨rfl, rfl⟩) | (go_at_call 58; refine (take_any (hR.gr (by repeat (first | exact Gr.refl _ | assumption | exact Dr.gr (by assumption) | refine Gr.alloc ?_ _ | refine Gr.drewN ?_ _ | refine Gr.drew ?_ | refine Gr.trans ?_ (by assumption) | refine Gr.trans ?_ (Dr.gr (by assumption))))) hf HI.out hL).mono ?_; rintro e w8 ⟨rfl, hr9, hk9⟩))
  go_wp2
  go_ret3
  exact ⟨rfl, hr9, hkp.trans (Gr.kpb (by repeat (first | exact Gr.refl _ | assumption | exact Dr.gr (by assumption) | refine Gr.alloc ?_ _ | refine Gr.drewN ?_ _ | refine Gr.drew ?_ | refine Gr.trans ?_ (by assumption) | refine Gr.trans ?_ (Dr.gr (by assumption)))) hk9)⟩
theorem qpop_no {w : World} {p : Nat} {FP : Nat → Prop} {a : Int} (h : Rg w p FP a []) :
    Calls Try.prog 38 #[.pointer (some ⟨p, 0, none⟩)] w fun e w' => e = .returned (.tuple #[.int .i64 0, .int .i64 0, .bool false]) ∧ w' = w := by
  go_enter Try.func38, Try.ntmps38
  go_wp2_with (go_at_call 56; refine (qlen_any h).mono ?_; rintro e w' ⟨rfl, rfl⟩)
  go_ret3
  exact ⟨rfl, rfl⟩
theorem qpop_nil (w : World) : Calls Try.prog 38 #[.pointer none] w fun e w' => e = .returned (.tuple #[.int .i64 0, .int .i64 0, .bool false]) ∧ w' = w := by
  go_enter Try.func38, Try.ntmps38
  go_wp2_with (go_at_call 56; refine (qlen_nil _).mono ?_; rintro e w' ⟨rfl, rfl⟩)
  go_ret3
  exact ⟨rfl, rfl⟩
end Go.Proofs.Ytigoehoaplndiaa
