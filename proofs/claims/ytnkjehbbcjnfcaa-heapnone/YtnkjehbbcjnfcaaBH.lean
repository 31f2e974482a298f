/- What the heap's Top, Pop do: the least one, which goes or stays; only the heap's own blocks are written. -/
import Derived.Test.YtnkjehbbcjnfcaaLPair
import Derived.Test.YtnkjehbbcjnfcaaBT
import Derived.Deep.AppendLies
import Derived.Deep.RegionHeld3
import Derived.Deep.RegionLawGrows
import Derived.Deep.DeepAppendRoom
namespace Go.Proofs.Ytnkjehbbcjnfcaa
open Go.RowKit
set_option maxRecDepth 20000

/-- who comes out no later -/
def LeP (a b : Int × Int) : Prop := a.1 < b.1 ∨ a.1 = b.1 ∧ a.2 ≤ b.2
/-- who comes out ahead -/
def ltP (a b : Int × Int) : Bool := decide (a.1 < b.1 ∨ a.1 = b.1 ∧ a.2 < b.2)
theorem ltP_yes {a b : Int × Int} (h : ltP a b = true) : LeP a b ∧ ¬ LeP b a := by
  simp only [ltP, decide_eq_true_eq] at h
  unfold LeP
  omega
theorem ltP_no {a b : Int × Int} (h : ltP a b = false) : LeP b a := by
  simp only [ltP, decide_eq_false_iff_not] at h
  unfold LeP
  omega
theorem ltP_of {a b : Int × Int} (h : ¬ LeP b a) : ltP a b = true := by
  simp only [ltP, decide_eq_true_eq]
  unfold LeP at h
  omega
theorem ltP_not {a b : Int × Int} (h : LeP b a) : ltP a b = false := by
  simp only [ltP, decide_eq_false_iff_not]
  unfold LeP at h
  omega
theorem LeP.refl (a : Int × Int) : LeP a a := by unfold LeP; omega
theorem LeP.trans {a b c : Int × Int} (h : LeP a b) (g : LeP b c) : LeP a c := by unfold LeP at *; omega
theorem LeP.anti {a b : Int × Int} (h : LeP a b) (g : LeP b a) : a = b := by
  unfold LeP at *
  exact Prod.ext (by omega) (by omega)

/-- sorted -/
def SrtP (S : List (Int × Int)) : Prop := S.Pairwise LeP
/-- x among those that are sorted -/
def insP (x : Int × Int) : List (Int × Int) → List (Int × Int)
  | [] => [x]
  | y :: S => if ltP y x then y :: insP x S else x :: y :: S
theorem insP_perm (x : Int × Int) : ∀ S, (insP x S).Perm (x :: S)
  | [] => .refl _
  | y :: S => by
    unfold insP
    split
    · exact ((insP_perm x S).cons y).trans (.swap x y S)
    · exact .refl _
theorem insP_len (x : Int × Int) (S : List (Int × Int)) : (insP x S).length = S.length + 1 := (insP_perm x S).length_eq
theorem insP_srt (x : Int × Int) : ∀ S, SrtP S → SrtP (insP x S)
  | [], _ => List.pairwise_singleton _ _
  | y :: S, h => by
    obtain ⟨h1, h2⟩ := List.pairwise_cons.1 h
    unfold insP
    split
    · rename_i c
      refine List.pairwise_cons.2 ⟨fun z hz => ?_, insP_srt x S h2⟩
      rcases List.mem_cons.1 ((insP_perm x S).mem_iff.1 hz) with e | e
      · rw [e]
        exact (ltP_yes c).1
      · exact h1 z e
    · rename_i c
      have hxy : LeP x y := ltP_no (by simpa using c)
      refine List.pairwise_cons.2 ⟨fun z hz => ?_, h⟩
      rcases List.mem_cons.1 hz with e | e
      · rw [e]; exact hxy
      · exact hxy.trans (h1 z e)
/-- sorted lists that hold the same, each as often, are one -/
theorem srtP_unique : ∀ {S T : List (Int × Int)}, SrtP S → SrtP T → S.Perm T → S = T
  | [], T, _, _, h => (List.nil_perm.1 h).symm
  | x :: S, [], _, _, h => absurd h.length_eq (by simp)
  | x :: S, y :: T, hS, hT, h => by
    obtain ⟨h1, h2⟩ := List.pairwise_cons.1 hS
    obtain ⟨g1, g2⟩ := List.pairwise_cons.1 hT
    have e : x = y := by
      have a : LeP x y := by
        rcases List.mem_cons.1 (h.mem_iff.2 (.head _)) with e | e
        · rw [e]; exact LeP.refl _
        · exact h1 y e
      have b : LeP y x := by
        rcases List.mem_cons.1 (h.mem_iff.1 (.head _)) with e | e
        · rw [e]; exact LeP.refl _
        · exact g1 x e
      exact a.anti b
    subst e
    rw [srtP_unique h2 g2 h.cons_inv]

/-- two places of a list turned about -/
def swP (L : List (Int × Int)) (a b : Nat) : List (Int × Int) := (L.set a (elP L b)).set b (elP L a)
theorem swP_len (L : List (Int × Int)) (a b : Nat) : (swP L a b).length = L.length := by simp [swP]
theorem elP_set (L : List (Int × Int)) (a : Nat) (x : Int × Int) (h : a < L.length) (i : Nat) : elP (L.set a x) i = if i = a then x else elP L i := by
  unfold elP
  rw [List.getD_eq_getElem?_getD, List.getD_eq_getElem?_getD, List.getElem?_set]
  by_cases e : a = i
  · subst e; simp [h]
  · rw [if_neg e, if_neg (Ne.symm e)]
theorem elP_sw {L : List (Int × Int)} {a b : Nat} (ha : a < L.length) (hb : b < L.length) (i : Nat) : elP (swP L a b) i = if i = b then elP L a else if i = a then elP L b else elP L i := by
  unfold swP
  rw [elP_set _ _ _ (by simpa using hb), elP_set _ _ _ ha]
theorem elP_getElem {L : List (Int × Int)} {i : Nat} (h : i < L.length) : L[i] = elP L i := by simp [elP, h]
theorem swP_perm {L : List (Int × Int)} {a b : Nat} (ha : a < L.length) (hb : b < L.length) : (swP L a b).Perm L := by
  have := List.set_set_perm ha hb
  rwa [elP_getElem ha, elP_getElem hb] at this

/-- a heap: nobody comes out ahead of the one above -/
def HpOk (L : List (Int × Int)) : Prop := ∀ i, 0 < i → i < L.length → LeP (elP L ((i - 1) / 2)) (elP L i)
/-- the same, but for the one at k, that may come out ahead of those above it -/
def RiseOk (L : List (Int × Int)) (k : Nat) : Prop := (∀ i, 0 < i → i < L.length → i ≠ k → LeP (elP L ((i - 1) / 2)) (elP L i)) ∧ (0 < k → ∀ i, 0 < i → i < L.length → (i - 1) / 2 = k → LeP (elP L ((k - 1) / 2)) (elP L i))
/-- the same, but for the one at k, that those below it may come out ahead of -/
def SinkOk (L : List (Int × Int)) (k : Nat) : Prop := (∀ i, 0 < i → i < L.length → (i - 1) / 2 ≠ k → LeP (elP L ((i - 1) / 2)) (elP L i)) ∧ (0 < k → ∀ i, 0 < i → i < L.length → (i - 1) / 2 = k → LeP (elP L ((k - 1) / 2)) (elP L i))
theorem rise_root {L : List (Int × Int)} (h : RiseOk L 0) : HpOk L := fun i h0 hi => h.1 i h0 hi (by omega)
theorem rise_done {L : List (Int × Int)} {k : Nat} (h : RiseOk L k) (hl : LeP (elP L ((k - 1) / 2)) (elP L k)) : HpOk L := by
  intro i h0 hi
  by_cases e : i = k
  · subst e; exact hl
  · exact h.1 i h0 hi e
theorem rise_step {L : List (Int × Int)} {k : Nat} (h : RiseOk L k) (hk : 0 < k) (hn : k < L.length) (hl : LeP (elP L k) (elP L ((k - 1) / 2))) : RiseOk (swP L k ((k - 1) / 2)) ((k - 1) / 2) := by
  have hp : (k - 1) / 2 < k := by omega
  have hp' : (k - 1) / 2 < L.length := by omega
  have E := elP_sw (L := L) hn hp'
  refine ⟨fun i h0 hi e => ?_, fun h0 i hi0 hi e => ?_⟩
  · rw [swP_len] at hi
    rw [E, E]
    by_cases e1 : i = k
    · subst e1
      rw [if_pos rfl, if_neg (by omega), if_pos rfl]
      exact hl
    · rw [if_neg e, if_neg e1]
      by_cases e2 : (i - 1) / 2 = (k - 1) / 2
      · rw [if_pos e2]
        have := h.1 i h0 hi e1
        rw [e2] at this
        exact hl.trans this
      · rw [if_neg e2]
        by_cases e3 : (i - 1) / 2 = k
        · rw [if_pos e3]
          exact h.2 hk i h0 hi e3
        · rw [if_neg e3]
          exact h.1 i h0 hi e1
  · rw [swP_len] at hi
    rw [E, E, if_neg (by omega), if_neg (by omega), if_neg (by omega)]
    have hpp := h.1 ((k - 1) / 2) h0 hp' (by omega)
    by_cases e1 : i = k
    · rw [if_pos e1]
      exact hpp
    · rw [if_neg e1]
      have := h.1 i hi0 hi e1
      rw [e] at this
      exact hpp.trans this
theorem sink_done {L : List (Int × Int)} {k : Nat} (h : SinkOk L k) (hl : ∀ i, 0 < i → i < L.length → (i - 1) / 2 = k → LeP (elP L k) (elP L i)) : HpOk L := by
  intro i h0 hi
  by_cases e : (i - 1) / 2 = k
  · rw [e]; exact hl i h0 hi e
  · exact h.1 i h0 hi e
theorem sink_step {L : List (Int × Int)} {k m : Nat} (h : SinkOk L k) (hm0 : 0 < m) (hm : m < L.length) (hmk : (m - 1) / 2 = k) (hle : LeP (elP L m) (elP L k)) (hl : ∀ i, 0 < i → i < L.length → (i - 1) / 2 = k → LeP (elP L m) (elP L i)) : SinkOk (swP L k m) m := by
  have hk : k < m := by omega
  have E := elP_sw (L := L) (a := k) (b := m) (by omega) hm
  refine ⟨fun i h0 hi e => ?_, fun _ i h0 hi e => ?_⟩
  · rw [swP_len] at hi
    rw [E, E, if_neg e]
    by_cases e1 : i = m
    · subst e1
      rw [if_pos hmk, if_pos rfl]
      exact hle
    · rw [if_neg e1]
      by_cases e2 : i = k
      · subst e2
        rw [if_neg (by omega), if_pos rfl]
        exact h.2 h0 m hm0 hm hmk
      · rw [if_neg e2]
        by_cases e3 : (i - 1) / 2 = k
        · rw [if_pos e3]
          exact hl i h0 hi e3
        · rw [if_neg e3]
          exact h.1 i h0 hi e3
  · rw [swP_len] at hi
    rw [hmk, E, E, if_neg (by omega), if_pos rfl, if_neg (by omega), if_neg (by omega)]
    have := h.1 i h0 hi (by omega)
    rw [e] at this
    exact this
/-- the one at the top comes out no later than any -/
theorem hp_top {L : List (Int × Int)} (h : HpOk L) : ∀ i, i < L.length → LeP (elP L 0) (elP L i) := by
  intro i
  induction i using Nat.strongRecOn with
  | _ i ih =>
    intro hi
    by_cases e : i = 0
    · subst e; exact LeP.refl _
    · exact (ih ((i - 1) / 2) (by omega) (by omega)).trans (h i (by omega) hi)
/-- one more at the end -/
theorem rise_push {L : List (Int × Int)} (h : HpOk L) (x : Int × Int) : RiseOk (L ++ [x]) L.length := by
  have E : ∀ i, i < L.length → elP (L ++ [x]) i = elP L i := fun i hi => by simp [elP, List.getElem?_append_left hi]
  refine ⟨fun i h0 hi e => ?_, fun h0 i hi0 hi e => ?_⟩
  · have hi : i < L.length + 1 := by simpa using hi
    rw [E _ (by omega), E _ (by omega)]
    exact h i h0 (by omega)
  · have hi : i < L.length + 1 := by simpa using hi
    omega
/-- the top gone, the last one in its place -/
def dropL (L : List (Int × Int)) : List (Int × Int) := (L.set 0 (elP L (L.length - 1))).take (L.length - 1)
theorem dropL_len (L : List (Int × Int)) : (dropL L).length = L.length - 1 := by simp [dropL]
theorem dropL_at {L : List (Int × Int)} {i : Nat} (h : i < L.length - 1) : elP (dropL L) i = if i = 0 then elP L (L.length - 1) else elP L i := by
  rw [← elP_set L 0 (elP L (L.length - 1)) (by omega)]
  show ((L.set 0 (elP L (L.length - 1))).take (L.length - 1)).getD i (0, 0) = (L.set 0 (elP L (L.length - 1))).getD i (0, 0)
  rw [List.getD_eq_getElem?_getD, List.getD_eq_getElem?_getD, List.getElem?_take, if_pos h]
theorem sink_drop {L : List (Int × Int)} (h : HpOk L) : SinkOk (dropL L) 0 := by
  refine ⟨fun i h0 hi e => ?_, fun h0 => by omega⟩
  rw [dropL_len] at hi
  rw [dropL_at (by omega), dropL_at hi, if_neg e, if_neg (by omega)]
  exact h i h0 (by omega)
theorem dropL_perm : ∀ (L : List (Int × Int)), 0 < L.length → (elP L 0 :: dropL L).Perm L
  | [], h => absurd h (by simp)
  | a :: M, _ => by
    rcases List.eq_nil_or_concat M with rfl | ⟨M, z, rfl⟩
    · simp [dropL, elP]
    · have e : dropL (a :: M.concat z) = z :: M := by
        have h1 : elP (a :: M.concat z) ((a :: M.concat z).length - 1) = z := by simp [elP]
        unfold dropL
        rw [h1]
        simp
      rw [e]
      refine List.Perm.cons a ?_
      rw [List.concat_eq_append]
      exact (List.perm_append_comm (l₁ := [z]) (l₂ := M))
/-- a heap of L, S what waits in it, sorted -/
structure Wt (L S : List (Int × Int)) : Prop where
  ok : HpOk L
  perm : L.Perm S
  srt : SrtP S
theorem Wt.len {L S : List (Int × Int)} (h : Wt L S) : L.length = S.length := h.perm.length_eq
theorem Wt.nil : Wt [] [] := ⟨fun i _ hi => by simp at hi, .refl _, List.Pairwise.nil⟩
theorem Wt.top {L S : List (Int × Int)} {y : Int × Int} (h : Wt L (y :: S)) : elP L 0 = y := by
  have hl := h.len
  rw [List.length_cons] at hl
  have h0 : elP L 0 ∈ y :: S := h.perm.mem_iff.1 (elP_mem (by omega))
  have hy : y ∈ L := h.perm.mem_iff.2 (.head _)
  obtain ⟨i, hi⟩ := List.mem_iff_getElem?.1 hy
  have hn := (List.getElem?_eq_some_iff.1 hi).1
  have a := hp_top h.ok i hn
  rw [elP_get? hn] at hi
  cases hi
  rcases List.mem_cons.1 h0 with e | e
  · exact e
  · exact a.anti ((List.pairwise_cons.1 h.srt).1 _ e)
theorem Wt.push {L S M : List (Int × Int)} (h : Wt L S) (x : Int × Int) (hM : M.Perm (L ++ [x])) (ho : HpOk M) : Wt M (insP x S) :=
  ⟨ho, (hM.trans (List.perm_append_comm.trans (h.perm.cons x))).trans (insP_perm x S).symm, insP_srt x S h.srt⟩
theorem Wt.pop {L S M : List (Int × Int)} {y : Int × Int} (h : Wt L (y :: S)) (hM : M.Perm (dropL L)) (ho : HpOk M) : Wt M S := by
  have hl := h.len
  rw [List.length_cons] at hl
  have p := (dropL_perm L (by omega)).trans h.perm
  rw [h.top] at p
  exact ⟨ho, hM.trans p.cons_inv, (List.pairwise_cons.1 h.srt).2⟩

theorem info_waiter : (Try.prog.info? 45).map (fun i => (i.zero, i.size, i.bytes)) = some (some (.agg #[.int .i64 0, .int .i64 0]), 2, 16) := by kernel_rfl
/-- the heap at p, whose box holds v, holds L in this order -/
structure Hm (w : World) (p : Nat) (v : Value) (L : List (Int × Int)) : Prop where
  box : w.rowIs p 43 1 (fun _ => v)
  row : w.ownsRow (p + 1) 45 2 v L.length (flatP L)
/-- its blocks -/
def OfH (p : Nat) (v : Value) (k : Nat) : Prop := k = p ∨ v.ownBlock = some k
theorem Hm.lt {w : World} {p : Nat} {v : Value} {L : List (Int × Int)} (h : Hm w p v L) {k : Nat} (hk : OfH p v k) : k < w.heap.size := by
  rcases hk with rfl | hk
  · exact h.box.lt
  · exact (h.row.lt k hk).2
theorem Hm.kp {S : Nat → Prop} {w w' : World} {p : Nat} {v : Value} {L : List (Int × Int)} (h : Hm w p v L) (k : Kp S w w') (hs : ∀ b, OfH p v b → ¬ S b) : Hm w' p v L := by
  refine ⟨k.row h.box (hs p (.inl rfl)), ?_⟩
  obtain ⟨h1, h2⟩ := h.row
  refine ⟨h1, ?_⟩
  rcases h2 with h0 | ⟨b, cap, cur, rfl, hb, hg, r⟩
  · exact .inl h0
  · exact .inr ⟨b, cap, cur, rfl, hb, (k.block b (Array.getElem?_eq_some_iff.1 hg).1 (hs b (.inr rfl))).trans hg, r⟩
theorem Hm.gr {w w' : World} {p : Nat} {v : Value} {L : List (Int × Int)} (h : Hm w p v L) (g : Gr w w') : Hm w' p v L := h.kp (S := fun _ => False) g.kp (fun _ _ q => q)
theorem Hm.form {w : World} {p : Nat} {v : Value} {L : List (Int × Int)} (h : Hm w p v L) : ∃ a c, v = .slice a L.length c ∧ w.cell? ⟨p, 0, none⟩ = some (.slice a L.length c) ∧ w.frozen? ⟨p, 0, none⟩ = false ∧ L.length ≤ c ∧ c ≤ maxLen ∧ (a = none → L.length = 0 ∧ c = 0) := by
  have hb := h.box.cell (i := 0) (by omega)
  have hf := h.box.frozen 0
  rcases h.row.2 with ⟨rfl, h0⟩ | ⟨b, cap, cur, rfl, _, _, hn, hm, _⟩
  · rw [h0]
    exact ⟨none, 0, rfl, hb, hf, Nat.le_refl _, Nat.zero_le _, fun _ => ⟨rfl, rfl⟩⟩
  · exact ⟨_, cap, rfl, hb, hf, hn, hm, fun e => by cases e⟩
/-- of one that is not empty -/
theorem Hm.at {w : World} {p : Nat} {v : Value} {L : List (Int × Int)} (h : Hm w p v L) (hn : 0 < L.length) : ∃ g c, v = .slice (some ⟨g, 0, none⟩) L.length c ∧ w.cell? ⟨p, 0, none⟩ = some (.slice (some ⟨g, 0, none⟩) L.length c) ∧ w.frozen? ⟨p, 0, none⟩ = false ∧ L.length ≤ c ∧ c ≤ maxLen ∧ p < g ∧
    (∀ i, i < L.length → w.cell? ⟨g, i * 2, none⟩ = some (.int .i64 (elP L i).1) ∧ w.cell? ⟨g, i * 2 + 1, none⟩ = some (.int .i64 (elP L i).2)) ∧ ∀ j, w.frozen? ⟨g, j, none⟩ = false := by
  have hb := h.box.cell (i := 0) (by omega)
  have hf := h.box.frozen 0
  obtain ⟨g, c, rfl, hg, hc⟩ := World.ownsRow.form h.row hn
  have hr := h.row
  refine ⟨g, c, rfl, hb, hf, ?_, ?_, by omega, fun i hi => ?_, fun j => hr.frozenAt j⟩
  · rcases hr.2 with ⟨e, _⟩ | ⟨b, cap, cur, e, _, _, h1, h2, _⟩
    · cases e
    · cases e; exact h1
  · rcases hr.2 with ⟨e, _⟩ | ⟨b, cap, cur, e, _, _, h1, h2, _⟩
    · cases e
    · cases e; exact h2
  · rw [hr.cellAt _ (by omega), hr.cellAt _ (by omega)]
    exact flatP_get L i (elP L i) (elP_get? hi)
theorem hm_new (w : World) : Hm (w.alloc (.cells #[.slice none 0 0] 43)) w.heap.size (.slice none 0 0) [] := by
  refine ⟨?_, World.ownsRow_nil _ _ _ _⟩
  have := World.rowIs_alloc w #[.slice none 0 0] 43 (fun _ => .slice none 0 0) (fun i hi => by
    have hi : i < 1 := by simpa using hi
    obtain rfl : i = 0 := by omega
    rfl)
  simpa using this

theorem before_any (a b : Int × Int) (w : World) :
    Calls Try.prog 16 #[.agg #[.int .i64 a.1, .int .i64 a.2], .agg #[.int .i64 b.1, .int .i64 b.2]] w fun e w' => e = .returned (.bool (ltP a b)) ∧ Gr w w' := by
  by_cases h : a.1 = b.1
  · have H : Hid (decide (a.2 < b.2) = ltP a b) := hide (by unfold ltP; rw [decide_eq_decide]; omega)
    have hb : (a.1 == b.1) = true := by simpa using h
    clear h
    obtain ⟨x, y⟩ := a
    obtain ⟨x2, y2⟩ := b
    obtain rfl : x = x2 := by simpa using hb
    clear hb
    go_enter Try.func16, Try.ntmps16
    go_wp2
    go_ret
    exact ⟨ret_bool H.out, (by repeat (first | exact Gr.refl _ | assumption | exact Dr.gr (by assumption) | refine Gr.alloc ?_ _ | refine Gr.drewN ?_ _ | refine Gr.drew ?_ | refine Gr.trans ?_ (by assumption) | refine Gr.trans ?_ (Dr.gr (by assumption))))⟩
  · have H : Hid (decide (a.1 < b.1) = ltP a b) := hide (by unfold ltP; rw [decide_eq_decide]; omega)
    go_enter Try.func16, Try.ntmps16
    go_wp2
    go_ret
    exact ⟨ret_bool H.out, (by repeat (first | exact Gr.refl _ | assumption | exact Dr.gr (by assumption) | refine Gr.alloc ?_ _ | refine Gr.drewN ?_ _ | refine Gr.drew ?_ | refine Gr.trans ?_ (by assumption) | refine Gr.trans ?_ (Dr.gr (by assumption))))⟩
theorem hnew_any (w : World) : Calls Try.prog 7 #[] w fun e w' => (∃ p, e = .returned (.pointer (some ⟨p, 0, none⟩)) ∧ p = w.heap.size ∧ Hm w' p (.slice none 0 0) []) ∧ w'.heap.size = w.heap.size + 1 ∧ Gr w w' := by
  go_enter Try.func7, Try.ntmps7
  go_wp2
  go_ret
  exact ⟨⟨_, rfl, rfl, hm_new w⟩, World.size_alloc _ _, (by repeat (first | exact Gr.refl _ | assumption | exact Dr.gr (by assumption) | refine Gr.alloc ?_ _ | refine Gr.drewN ?_ _ | refine Gr.drew ?_ | refine Gr.trans ?_ (by assumption) | refine Gr.trans ?_ (Dr.gr (by assumption))))⟩
theorem hlen_any {w : World} {p : Nat} {v : Value} {L : List (Int × Int)} (h : Hm w p v L) :
    Calls Try.prog 12 #[.pointer (some ⟨p, 0, none⟩)] w fun e w' => e = .returned (.int .i64 (L.length : Int)) ∧ w' = w := by
  obtain ⟨a, c, rfl, c0, -, -, -, -⟩ := h.form
  clear h
  go_enter Try.func12, Try.ntmps12
  go_wp2
  go_ret
  exact ⟨rfl, rfl⟩
theorem hlen_nil (w : World) : Calls Try.prog 12 #[.pointer none] w fun e w' => e = .returned (.int .i64 0) ∧ w' = w := by
  go_enter Try.func12, Try.ntmps12
  go_wp2
  go_ret
  exact ⟨rfl, rfl⟩

theorem flatP_set : ∀ (L : List (Int × Int)) (i : Nat) (x : Int × Int), ((flatP L).set (i * 2) (.int .i64 x.1)).set (i * 2 + 1) (.int .i64 x.2) = flatP (L.set i x)
  | [], i, x => by simp [flatP]
  | e :: L, 0, x => rfl
  | e :: L, i + 1, x => by
    rw [flatP_cons, List.set_cons_succ, flatP_cons, ← flatP_set L i x, show (i + 1) * 2 = i * 2 + 1 + 1 by omega]
    rfl
/-- one of those that wait, laid anew -/
theorem Hm.put {w : World} {p g n c : Nat} {L : List (Int × Int)} (h : Hm w p (.slice (some ⟨g, 0, none⟩) n c) L) (hn : n = L.length) (hp : p < g) (i : Nat) (x : Int × Int) :
    Hm ((w.setCell ⟨g, i * 2, none⟩ (.int .i64 x.1)).setCell ⟨g, i * 2 + 1, none⟩ (.int .i64 x.2)) p (.slice (some ⟨g, 0, none⟩) n c) (L.set i x) ∧
      Kp (OfH p (.slice (some ⟨g, 0, none⟩) n c)) w ((w.setCell ⟨g, i * 2, none⟩ (.int .i64 x.1)).setCell ⟨g, i * 2 + 1, none⟩ (.int .i64 x.2)) := by
  subst hn
  refine ⟨⟨(h.box.setOther (a := ⟨g, i * 2, none⟩) (by show p ≠ g; omega) _).setOther (a := ⟨g, i * 2 + 1, none⟩) (by show p ≠ g; omega) _, ?_⟩, Kp.set (Kp.set (Kp.refl _ w) (p := ⟨g, i * 2, none⟩) (.inl (.inr rfl)) _) (p := ⟨g, i * 2 + 1, none⟩) (.inl (.inr rfl)) _⟩
  rw [List.length_set, ← flatP_set]
  exact ((h.row.stored (i * 2) _).1.stored (i * 2 + 1) _).1

set_option maxHeartbeats 1000000 in
theorem swap_any {w : World} {p : Nat} {v : Value} {L : List (Int × Int)} (h : Hm w p v L) (a b : Nat) (ha : a < L.length) (hb : b < L.length) (hne : a ≠ b) :
    Calls Try.prog 17 #[.pointer (some ⟨p, 0, none⟩), .int .i64 (a : Int), .int .i64 (b : Int)] w fun e w' => e = .returned (.tuple #[]) ∧ Hm w' p v (swP L a b) ∧ Kp (OfH p v) w w' := by
  obtain ⟨g, c, rfl, c0, f0, hlc, hc, hpg, hel, hfr⟩ := h.at (by omega)
  obtain ⟨a1, a2⟩ := hel a ha
  obtain ⟨b1, b2⟩ := hel b hb
  have haI : (a : Int) < (L.length : Int) := by omega
  have hbI : (b : Int) < (L.length : Int) := by omega
  obtain ⟨A1, A2⟩ := h.put rfl hpg a (elP L b)
  obtain ⟨A3, A4⟩ := A1.put (by rw [List.length_set]) hpg b (elP L a)
  have R1 := hide (show Hm _ p _ (swP L a b) from A3)
  have K1 := hide (A2.trans A4)
  clear h hel ha hb A1 A2 A3 A4
  go_enter Try.func17, Try.ntmps17
  go_wp2_with fail
  go_region
  go_end0
  exact ⟨rfl, R1.out.gr (Gr.refl _).drew, K1.out.grb (Gr.refl _).drew⟩

/-- m is the least one of k and of those below it that stand ahead of q -/
def LeastTo (L : List (Int × Int)) (k m q : Nat) : Prop := (m = k ∨ 2 * k + 1 ≤ m ∧ m < q ∧ m < L.length) ∧ LeP (elP L m) (elP L k) ∧ ∀ i, 2 * k + 1 ≤ i → i < q → i < L.length → LeP (elP L m) (elP L i)
/-- m is the least one of k and of all below it -/
def LeastIs (L : List (Int × Int)) (k m : Nat) : Prop := (m = k ∨ 0 < m ∧ m < L.length ∧ (m - 1) / 2 = k) ∧ LeP (elP L m) (elP L k) ∧ ∀ i, 0 < i → i < L.length → (i - 1) / 2 = k → LeP (elP L m) (elP L i)
theorem least_start (L : List (Int × Int)) (k : Nat) : LeastTo L k k (2 * k + 1) := ⟨.inl rfl, LeP.refl _, fun i h1 h2 _ => by omega⟩
theorem least_yes {L : List (Int × Int)} {k m q : Nat} (h : LeastTo L k m q) (hq : 2 * k + 1 ≤ q) (hn : q < L.length) (hl : ltP (elP L q) (elP L m) = true) : LeastTo L k q (q + 1) := by
  have e := (ltP_yes hl).1
  refine ⟨.inr ⟨hq, by omega, hn⟩, e.trans h.2.1, fun i h1 h2 h3 => ?_⟩
  by_cases c : i = q
  · subst c; exact LeP.refl _
  · exact e.trans (h.2.2 i h1 (by omega) h3)
theorem least_no {L : List (Int × Int)} {k m q : Nat} (h : LeastTo L k m q) (hl : ltP (elP L q) (elP L m) = false) : LeastTo L k m (q + 1) := by
  refine ⟨?_, h.2.1, fun i h1 h2 h3 => ?_⟩
  · rcases h.1 with e | ⟨a, b, c⟩
    · exact .inl e
    · exact .inr ⟨a, by omega, c⟩
  · by_cases c : i = q
    · subst c; exact ltP_no hl
    · exact h.2.2 i h1 (by omega) h3
theorem least_end {L : List (Int × Int)} {k m q : Nat} (h : LeastTo L k m q) (hq : 2 * k + 3 ≤ q ∨ L.length ≤ q) (hq2 : q ≤ 2 * k + 3) : LeastIs L k m := by
  refine ⟨?_, h.2.1, fun i h1 h2 h3 => h.2.2 i (by omega) (by omega) h2⟩
  rcases h.1 with e | ⟨a, b, c⟩
  · exact .inl e
  · exact .inr ⟨by omega, c, by omega⟩

set_option maxHeartbeats 4000000 in
theorem leastOf_any {w : World} {p : Nat} {v : Value} {L : List (Int × Int)} (h : Hm w p v L) (k : Nat) (hn : L.length ≤ 1000000) (hk : k ≤ 1000000) :
    Calls Try.prog 19 #[.pointer (some ⟨p, 0, none⟩), .int .i64 (k : Int)] w fun e w' => (∃ m : Nat, e = .returned (.int .i64 (m : Int)) ∧ LeastIs L k m) ∧ Gr w w' := by
  have HH := hide h
  clear h
  go_enter Try.func19, Try.ntmps19
  go_wp2_with fail
  go_loopw [5, 6] (fun l b u => ∃ m q : Nat, 2 * k + 1 ≤ q ∧ q ≤ 2 * k + 3 ∧ l = .int .i64 m ∧ b = .int .i64 q ∧ LeastTo L k m q ∧ Gr w u) (fun _ b _ => 2 * k + 3 - (intOf b).toNat)
  case atStart => exact ⟨k, 2 * k + 1, by omega, by omega, rfl, by go_num, least_start L k, Gr.refl _⟩
  case round =>
    obtain ⟨m, q, hq1, hq2, rfl, rfl, hl, hgr⟩ := hrel
    by_cases h3 : q = 2 * k + 3
    · have hR := hide (least_end hl (by omega) hq2)
      clear hl
      have hqk : ¬ (q : Int) ≤ 2 * (k : Int) + 2 := by omega
      go_wp2_with fail
      go_wp2
      go_ret
      exact ⟨⟨m, rfl, hR.out⟩, hgr⟩
    · have hqk : (q : Int) ≤ 2 * (k : Int) + 2 := by omega
      by_cases hlt : q < L.length
      · have hm : m < L.length := by rcases hl.1 with e | e <;> omega
        obtain ⟨g, c, rfl, c0, f0, hlc, hc, hpg, hel, hfr⟩ := (HH.out.gr hgr).at (by omega)
        obtain ⟨a1, a2⟩ := hel q hlt
        obtain ⟨b1, b2⟩ := hel m hm
        have haI : (q : Int) < (L.length : Int) := by omega
        have hbI : (m : Int) < (L.length : Int) := by omega
        have HL := hide hl
        clear hl hel hfr
        cases hr : ltP (elP L q) (elP L m)
        · have HR := hide hr
          have HT := hide hlt
          go_wp2_with fail
          go_region_held3 (fun u => u.cell? ⟨p, 0, none⟩ = some (.slice (some ⟨g, 0, none⟩) L.length c) ∧ u.cell? ⟨g, q * 2, none⟩ = some (.int .i64 (elP L q).1) ∧ u.cell? ⟨g, q * 2 + 1, none⟩ = some (.int .i64 (elP L q).2) ∧ u.cell? ⟨g, m * 2, none⟩ = some (.int .i64 (elP L m).1) ∧ u.cell? ⟨g, m * 2 + 1, none⟩ = some (.int .i64 (elP L m).2)) (first | exact ⟨c0, a1, a2, b1, b2⟩ | exact ⟨cell_gr c0 ((Gr.refl _).drew.trans hg9), cell_gr a1 ((Gr.refl _).drew.trans hg9), cell_gr a2 ((Gr.refl _).drew.trans hg9), cell_gr b1 ((Gr.refl _).drew.trans hg9), cell_gr b2 ((Gr.refl _).drew.trans hg9)⟩) (first | (go_at_call 16; refine (before_any _ _ _).mono ?_; rintro e w9 ⟨rfl, hg9⟩; rw [HR.out]))
          go_wp2
          go_roundw
          case rel => exact ⟨m, q + 1, by omega, by omega, rfl, by go_num, least_no HL.out HR.out, hgr.trans (Gr.trans (by repeat (first | exact Gr.refl _ | assumption | exact Dr.gr (by assumption) | refine Gr.alloc ?_ _ | refine Gr.drewN ?_ _ | refine Gr.drew ?_ | refine Gr.trans ?_ (by assumption) | refine Gr.trans ?_ (Dr.gr (by assumption)))) hg9)⟩
          case measure => simp [intOf]; omega
        · have HR := hide hr
          have HT := hide hlt
          go_wp2_with fail
          go_region_held3 (fun u => u.cell? ⟨p, 0, none⟩ = some (.slice (some ⟨g, 0, none⟩) L.length c) ∧ u.cell? ⟨g, q * 2, none⟩ = some (.int .i64 (elP L q).1) ∧ u.cell? ⟨g, q * 2 + 1, none⟩ = some (.int .i64 (elP L q).2) ∧ u.cell? ⟨g, m * 2, none⟩ = some (.int .i64 (elP L m).1) ∧ u.cell? ⟨g, m * 2 + 1, none⟩ = some (.int .i64 (elP L m).2)) (first | exact ⟨c0, a1, a2, b1, b2⟩ | exact ⟨cell_gr c0 ((Gr.refl _).drew.trans hg9), cell_gr a1 ((Gr.refl _).drew.trans hg9), cell_gr a2 ((Gr.refl _).drew.trans hg9), cell_gr b1 ((Gr.refl _).drew.trans hg9), cell_gr b2 ((Gr.refl _).drew.trans hg9)⟩) (first | (go_at_call 16; refine (before_any _ _ _).mono ?_; rintro e w9 ⟨rfl, hg9⟩; rw [HR.out]))
          go_wp2
          go_roundw
          case rel => exact ⟨q, q + 1, by omega, by omega, rfl, by go_num, least_yes HL.out hq1 HT.out HR.out, hgr.trans (Gr.trans (by repeat (first | exact Gr.refl _ | assumption | exact Dr.gr (by assumption) | refine Gr.alloc ?_ _ | refine Gr.drewN ?_ _ | refine Gr.drew ?_ | refine Gr.trans ?_ (by assumption) | refine Gr.trans ?_ (Dr.gr (by assumption)))) hg9)⟩
          case measure => simp [intOf]; omega
      · have hqn : ¬ (q : Int) < (L.length : Int) := by omega
        have hR := hide (least_end hl (by omega) hq2)
        clear hl
        obtain ⟨a, c, rfl, c0, -, -, -, -⟩ := (HH.out.gr hgr).form
        go_wp2_with fail
        go_ret
        exact ⟨⟨m, rfl, hR.out⟩, hgr⟩

set_option maxHeartbeats 4000000 in
theorem rise_any {w : World} {p : Nat} {v : Value} {L : List (Int × Int)} (h : Hm w p v L) (k : Nat) (hn : L.length ≤ 1000000) (hk : k < L.length) (hr : RiseOk L k) :
    Calls Try.prog 14 #[.pointer (some ⟨p, 0, none⟩), .int .i64 (k : Int)] w fun e w' => e = .returned (.tuple #[]) ∧ (∃ M, Hm w' p v M ∧ M.Perm L ∧ HpOk M) ∧ Kp (OfH p v) w w' := by
  have HH := hide h
  have HR := hide hr
  clear h hr
  go_enter Try.func14, Try.ntmps14
  go_wp2_with fail
  go_loopw [1] (fun i u => ∃ (j : Nat) (M : List (Int × Int)), i = .int .i64 j ∧ j < M.length ∧ Hm u p v M ∧ M.Perm L ∧ RiseOk M j ∧ Kp (OfH p v) w u) (fun i _ => (intOf i).toNat)
  case atStart => exact ⟨k, L, rfl, hk, HH.out, .refl _, HR.out, Kp.refl _ _⟩
  case round =>
    obtain ⟨j, M, rfl, hj, hM, hp, hro, hkp⟩ := hrel
    by_cases h0 : j = 0
    · subst h0
      have ho := hide (rise_root hro)
      have HM := hide hM
      clear hM hro
      go_wp2_with fail
      go_end0
      exact ⟨rfl, ⟨M, HM.out, hp, ho.out⟩, hkp⟩
    · have h0I : 0 < (j : Int) := by omega
      have hj6 : (j : Int) ≤ 1000000 := by have := hp.length_eq; omega
      obtain ⟨b, hb⟩ : ∃ b, b = (j - 1) / 2 := ⟨_, rfl⟩
      have hbj : b < j := by omega
      obtain ⟨g, c, rfl, c0, f0, hlc, hc, hpg, hel, hfr⟩ := hM.at (by omega)
      obtain ⟨a1, a2⟩ := hel j hj
      obtain ⟨b1, b2⟩ := hel b (by omega)
      have haI : (j : Int) < (M.length : Int) := by omega
      have hbI : (b : Int) < (M.length : Int) := by omega
      have HM := hide hM
      have HB := hide hb
      have HRO := hide hro
      have HQ : Hid (((j : Int) - 1) / 2 = (b : Int)) := hide (by omega)
      clear hM hro hel hfr hb
      cases hl : ltP (elP M j) (elP M b)
      · have HL := hide hl
        have hle := hide (rise_done HRO.out (by rw [← HB.out]; exact ltP_no hl))
        clear hl
        go_wp2_with fail
        rw [HQ.out]
        go_region_held3 (fun u => u.cell? ⟨p, 0, none⟩ = some (.slice (some ⟨g, 0, none⟩) M.length c) ∧ u.cell? ⟨g, j * 2, none⟩ = some (.int .i64 (elP M j).1) ∧ u.cell? ⟨g, j * 2 + 1, none⟩ = some (.int .i64 (elP M j).2) ∧ u.cell? ⟨g, b * 2, none⟩ = some (.int .i64 (elP M b).1) ∧ u.cell? ⟨g, b * 2 + 1, none⟩ = some (.int .i64 (elP M b).2)) (first | exact ⟨c0, a1, a2, b1, b2⟩ | exact ⟨cell_gr c0 ((Gr.refl _).drew.trans hg9), cell_gr a1 ((Gr.refl _).drew.trans hg9), cell_gr a2 ((Gr.refl _).drew.trans hg9), cell_gr b1 ((Gr.refl _).drew.trans hg9), cell_gr b2 ((Gr.refl _).drew.trans hg9)⟩) (first | (go_at_call 16; refine (before_any _ _ _).mono ?_; rintro e w9 ⟨rfl, hg9⟩; rw [HL.out]))
        go_wp2
        refine bodyPost_ret (results_none rfl _ _ _) rfl ?_
        have hg := (Gr.refl wr).drew.trans hg9
        exact ⟨rfl, ⟨M, HM.out.gr hg, hp, hle.out⟩, hkp.grb hg⟩
      · have HL := hide hl
        have hle := rise_step HRO.out (by omega) hj (by rw [← HB.out]; exact (ltP_yes hl).1)
        rw [← HB.out] at hle
        have HS := hide hle
        clear hl hle
        go_wp2_with fail
        rw [HQ.out]
        go_region_held3 (fun u => u.cell? ⟨p, 0, none⟩ = some (.slice (some ⟨g, 0, none⟩) M.length c) ∧ u.cell? ⟨g, j * 2, none⟩ = some (.int .i64 (elP M j).1) ∧ u.cell? ⟨g, j * 2 + 1, none⟩ = some (.int .i64 (elP M j).2) ∧ u.cell? ⟨g, b * 2, none⟩ = some (.int .i64 (elP M b).1) ∧ u.cell? ⟨g, b * 2 + 1, none⟩ = some (.int .i64 (elP M b).2)) (first | exact ⟨c0, a1, a2, b1, b2⟩ | exact ⟨cell_gr c0 ((Gr.refl _).drew.trans hg9), cell_gr a1 ((Gr.refl _).drew.trans hg9), cell_gr a2 ((Gr.refl _).drew.trans hg9), cell_gr b1 ((Gr.refl _).drew.trans hg9), cell_gr b2 ((Gr.refl _).drew.trans hg9)⟩) (first | (go_at_call 16; refine (before_any _ _ _).mono ?_; rintro e w9 ⟨rfl, hg9⟩; rw [HL.out]))
        go_wp2_with (go_at_call 17; refine (swap_any (HM.out.gr ((Gr.refl wr).drew.trans hg9)) j b hj (by omega) (by omega)).mono ?_; rintro e w8 ⟨rfl, hM8, hk8⟩)
        go_roundw
        case rel => exact ⟨b, swP M j b, rfl, by rw [swP_len]; omega, hM8, (swP_perm hj (by omega)).trans hp, HS.out, (hkp.grb ((Gr.refl wr).drew.trans hg9)).trans hk8⟩
        case measure => simp [intOf]; omega

theorem LeastIs.done {L : List (Int × Int)} {k m : Nat} (h : LeastIs L k m) (hs : SinkOk L k) (e : m = k) : HpOk L := sink_done hs fun i h0 hi hk => by subst e; exact h.2.2 i h0 hi hk
theorem LeastIs.step {L : List (Int × Int)} {k m : Nat} (h : LeastIs L k m) (hs : SinkOk L k) (e : m ≠ k) : SinkOk (swP L k m) m ∧ k < m ∧ m < L.length := by
  rcases h.1 with e' | ⟨a, b, c⟩
  · exact absurd e' e
  · exact ⟨sink_step hs a b c h.2.1 h.2.2, by omega, b⟩

set_option maxHeartbeats 4000000 in
theorem sink_any {w : World} {p : Nat} {v : Value} {L : List (Int × Int)} (h : Hm w p v L) (k : Nat) (hn : L.length ≤ 1000000) (hk : k ≤ L.length) (hr : SinkOk L k) :
    Calls Try.prog 18 #[.pointer (some ⟨p, 0, none⟩), .int .i64 (k : Int)] w fun e w' => e = .returned (.tuple #[]) ∧ (∃ M, Hm w' p v M ∧ M.Perm L ∧ HpOk M) ∧ Kp (OfH p v) w w' := by
  have HH := hide h
  have HR := hide hr
  clear h hr
  go_enter Try.func18, Try.ntmps18
  go_wp2_with fail
  go_loopw [1] (fun i u => ∃ (j : Nat) (M : List (Int × Int)), i = .int .i64 j ∧ j ≤ M.length ∧ Hm u p v M ∧ M.Perm L ∧ SinkOk M j ∧ Kp (OfH p v) w u) (fun i _ => L.length - (intOf i).toNat)
  case atStart => exact ⟨k, L, rfl, hk, HH.out, .refl _, HR.out, Kp.refl _ _⟩
  case round =>
    obtain ⟨j, M, rfl, hj, hM, hp, hro, hkp⟩ := hrel
    have HML := hide hp.length_eq
    have hM6 : M.length ≤ 1000000 := by have := hp.length_eq; omega
    have HM := hide hM
    have HS := hide hro
    clear hM hro
    go_wp2_with fail
    refine (leastOf_any HM.out j hM6 (by omega)).mono ?_
    rintro e w1 ⟨⟨m, rfl, hm⟩, hg1⟩
    by_cases e : m = j
    · have HO := hide (hm.done HS.out e)
      have he : ((m : Int) == (j : Int)) = true := by rw [e]; simp
      clear hm e
      go_wp2_with fail
      refine bodyPost_ret (results_none rfl _ _ _) rfl ?_
      exact ⟨rfl, ⟨M, HM.out.gr hg1, hp, HO.out⟩, hkp.grb hg1⟩
    · obtain ⟨h1, h2, h3⟩ := hm.step HS.out e
      have H1 := hide h1
      have he : ((m : Int) == (j : Int)) = false := by rw [beq_eq_false_iff_ne]; omega
      clear hm e h1
      go_wp2_with (go_at_call 17; refine (swap_any (HM.out.gr hg1) j m (by omega) h3 (by omega)).mono ?_; rintro e w8 ⟨rfl, hM8, hk8⟩)
      go_roundw
      case rel => exact ⟨m, swP M j m, rfl, by rw [swP_len]; omega, hM8, (swP_perm (by omega) h3).trans hp, H1.out, (hkp.grb hg1).trans hk8⟩
      case measure => have := HML.out; simp [intOf]; omega

theorem flatP_take : ∀ (L : List (Int × Int)) (m : Nat), flatP (L.take m) = (flatP L).take (m * 2)
  | [], m => by simp [flatP]
  | e :: L, 0 => by simp [flatP]
  | e :: L, m + 1 => by
    rw [List.take_succ_cons, flatP_cons, flatP_cons, flatP_take L m, show (m + 1) * 2 = m * 2 + 1 + 1 by omega]
    rfl
/-- of its first m -/
theorem Hm.cut {w : World} {p g n c m : Nat} {L : List (Int × Int)} (h : Hm w p (.slice (some ⟨g, 0, none⟩) n c) L) (hp : p < g) (hn : n = L.length) (hm : m ≤ n) :
    Hm (w.setCell ⟨p, 0, none⟩ (.slice (some ⟨g, 0, none⟩) m c)) p (.slice (some ⟨g, 0, none⟩) m c) (L.take m) := by
  subst hn
  refine ⟨(h.box.set 0 _).congr fun i hi => if_pos (by omega), ?_⟩
  have hl : (L.take m).length = m := by rw [List.length_take]; omega
  rcases h.row.2 with ⟨e, _⟩ | ⟨g', cap, cur, e, hb, hg, h1, h2, h3, h4⟩
  · cases e
  · cases e
    rw [hl]
    refine ⟨by rw [flatP_len, hl], .inr ⟨g, c, cur, rfl, hb, (Below.heap_setCell w ⟨p, 0, none⟩ _ g (by show g ≠ p; omega)).trans hg, by omega, h2, h3, ?_⟩⟩
    rw [flatP_take, ← h4, List.take_take]
    congr 1
    omega
/-- none is left -/
theorem Hm.empty {w : World} {p : Nat} {v : Value} {L : List (Int × Int)} (h : Hm w p v L) : Hm (w.setCell ⟨p, 0, none⟩ (.slice none 0 0)) p (.slice none 0 0) [] :=
  ⟨(h.box.set 0 _).congr fun i hi => if_pos (by omega), World.ownsRow_nil _ _ _ _⟩

set_option maxHeartbeats 4000000 in
theorem drop_any {w : World} {p : Nat} {v : Value} {L : List (Int × Int)} (h : Hm w p v L) (hn : L.length ≤ 1000000) (h0 : 0 < L.length) (hr : HpOk L) :
    Calls Try.prog 15 #[.pointer (some ⟨p, 0, none⟩)] w fun e w' => e = .returned (.tuple #[]) ∧ (∃ v' M, Hm w' p v' M ∧ M.Perm (dropL L) ∧ HpOk M ∧ ∀ k, OfH p v' k → OfH p v k) ∧ Kp (OfH p v) w w' := by
  obtain ⟨n, hl⟩ : ∃ n, L.length = n + 1 := ⟨L.length - 1, by omega⟩
  have hso := hide (sink_drop hr)
  have hdl : (dropL L).length = n := by rw [dropL_len]; omega
  obtain ⟨g, c, rfl, c0, f0, hlc, hc, hpg, hel, hfr⟩ := h.at h0
  obtain ⟨a1, a2⟩ := hel 0 h0
  obtain ⟨b1, b2⟩ := hel n (by omega)
  obtain ⟨A1, A2⟩ := h.put rfl hpg 0 (elP L n)
  rw [Nat.zero_mul, Nat.zero_add] at A1 A2
  have B1 := A1.cut (m := n) hpg (by rw [List.length_set]) (by omega)
  have eD : (L.set 0 (elP L n)).take n = dropL L := by unfold dropL; rw [hl]; rfl
  rw [eD] at B1
  have B2 := Kp.set A2 (p := ⟨p, 0, none⟩) (.inl (.inl rfl)) (.slice (some ⟨g, 0, none⟩) n c)
  have HB1 := hide B1
  have HB2 := hide B2
  rw [hl] at c0 hlc
  rw [Nat.zero_mul] at a1 a2
  have hnI : (n : Int) ≤ 1000000 := by omega
  have hnJ : (n : Int) < (n : Int) + 1 := by omega
  have hn0 : (0 : Int) < (n : Int) + 1 := by omega
  have hcI : (n : Int) ≤ (c : Int) := by omega
  have HD := hide hdl
  clear h hel A1 A2 B1 B2 eD hl hdl hr
  by_cases e : n = 0
  · have HE : Hid (dropL L = []) := hide (List.eq_nil_of_length_eq_zero (HD.out.trans e))
    have C1 := hide HB1.out.empty
    have C2 := hide (Kp.set HB2.out (p := ⟨p, 0, none⟩) (.inl (.inl rfl)) (.slice none 0 0))
    have hs0 : Hid (SinkOk ([] : List (Int × Int)) 0) := hide ⟨fun i _ hi => by simp at hi, fun h0 => by omega⟩
    have he : ((n : Int) == 0) = true := by rw [e]; rfl
    clear e
    go_enter Try.func15, Try.ntmps15
    go_wp2_with fail
    go_region
    go_wp2_with fail
    refine (sink_any (C1.out.gr (Gr.refl _).drew) 0 (by simp) (by simp) hs0.out).mono ?_
    rintro e w1 ⟨rfl, ⟨M, hM, hp, ho⟩, hk⟩
    go_wp2_with fail
    go_end0
    refine ⟨rfl, ⟨_, M, hM, by rw [HE.out]; exact hp, ho, fun k hk => ?_⟩, (C2.out.grb (Gr.refl _).drew).trans (hk.mono fun k hk => ?_)⟩
    all_goals
      rcases hk with hk | hk
      · exact .inl hk
      · cases hk
  · have he : ((n : Int) == 0) = false := by rw [beq_eq_false_iff_ne]; omega
    clear e
    go_enter Try.func15, Try.ntmps15
    go_wp2_with fail
    go_region
    go_wp2_with fail
    refine (sink_any (HB1.out.gr (Gr.refl _).drew) 0 (by rw [HD.out]; omega) (Nat.zero_le _) hso.out).mono ?_
    rintro e w1 ⟨rfl, ⟨M, hM, hp, ho⟩, hk⟩
    go_wp2_with fail
    go_end0
    refine ⟨rfl, ⟨_, M, hM, hp, ho, fun k hk => ?_⟩, (HB2.out.grb (Gr.refl _).drew).trans (hk.mono fun k hk => ?_)⟩
    all_goals
      rcases hk with hk | hk
      · exact .inl hk
      · exact .inr hk

theorem Kp.gr_own {w w' : World} {row : Option Nat} (h : w.grownBy w' row) : Kp (fun k => row = some k) w w' := ⟨h.os, h.tape, h.output, h.size, fun k hk hs => h.block k hk (fun e => hs e.symm)⟩
/-- 'append' of a struct, or an array, of two numbers; the new row is the old one, or lies above all that was there -/
theorem wp_two (T E : TypeId) (htu : Try.prog.underlying T = some (.slice E)) (hinfo : (Try.prog.info? E).map (fun i => (i.zero, i.size, i.bytes)) = some (some (.agg #[.int .i64 0, .int .i64 0]), 2, 16)) {o : Oper} {a : Act} {w : World} {K : Act → World → Prop} {Q : Exit → Act → World → Prop}
    (hg : o.guard = none) (s x : Operand) (ho : o.op = Op.call { callee := Callee.builtin Builtin.append, args := #[s, x], argTypes := #[T, T] })
    {base : Nat} {v : Value} {L : List (Int × Int)} (hr : w.ownsRow base E 2 v L.length (flatP L)) (hL : L.length ≤ 1000000) (hbase : base ≤ w.heap.size) (hs : a.eval s = v) (b : Nat) (k y : Int) (hx : a.eval x = .slice (some ⟨b, 0, none⟩) 1 1)
    (hc : ∀ j u, [Value.int .i64 k, Value.int .i64 y][j]? = some u → w.cell? ((⟨b, 0, none⟩ : Addr).add j) = some u)
    (hK : ∀ a1 c1 w', w'.ownsRow base E 2 (.slice a1 (L.length + 1) c1) (L.length + 1) (flatP (L ++ [(k, y)])) → (∀ b, (Value.slice a1 (L.length + 1) c1).ownBlock = some b → v.ownBlock = some b ∨ w.heap.size ≤ b) → Kp (fun k => v.ownBlock = some k) w w' → K (a.put o.dst (.slice a1 (L.length + 1) c1)) w') :
    Oper.wp Try.prog o a w K Q := by
  obtain ⟨i0, hi, hz0, hz1, hz2⟩ := info_parts hinfo
  have h1c : ∀ u ∈ [Value.int .i64 k, Value.int .i64 y], u.oneCell' = true := by simp [Value.oneCell']
  have grows : ∀ (ao : Option Addr) (cap : Nat), v = .slice ao L.length cap → (ao = none → L.length = 0 ∧ cap = 0) → cap < L.length + 1 → (∀ b, ao = some b → ∀ j u, (flatP L)[j]? = some u → w.cell? (b.add j) = some u) →
      Oper.wp Try.prog o a w K Q := by
    intro ao cap hv hn hcap holds
    have hw : Region.wanted o (yielded #[] a.tmps) = true := by simp [Region.wanted, hg]
    have := step_append_grows (ops := #[]) (E := True) (K := K) (Q := Q) hg s x T ho E i0 (.agg #[.int .i64 0, .int .i64 0]) 2 16 htu hi hz0 hz1 hz2 rfl (by decide) ao L.length cap (flatP L) (hs.trans hv) hn (flatP_len L) holds ⟨b, 0, none⟩ 1 1 [.int .i64 k, .int .i64 y] hx rfl hc h1c hcap (by unfold maxLen; omega) (by omega) (fun v' w' hown hgr => by
      obtain ⟨g, c, rfl, hgb, -⟩ := World.ownsRow.form hown (by omega)
      refine hK _ _ w' ?_ (fun b hb => ?_) ((Kp.gr_own hgr).mono (fun k e => by cases e))
      · rw [flatP_app]
        exact ownP_base hown hbase
      · cases hb
        exact .inr hgb)
    rwa [if_pos hw] at this
  rcases hr.2 with ⟨hv, hl⟩ | ⟨g, cap, cur, hv, hb, hg', hn, hm, hcs, ht⟩
  · exact grows none 0 (by rw [hv, hl]) (fun _ => ⟨hl, rfl⟩) (by omega) (fun b hb => by cases hb)
  · subst hv
    by_cases hroom : L.length + 1 ≤ cap
    · refine wp_append_own_spare w s x T ho base E i0 2 htu hi hz1 g L.length cap (flatP L) hs hr ⟨b, 0, none⟩ 1 1 [.int .i64 k, .int .i64 y] hx rfl hc h1c hroom ?_
      intro w' hown hgr
      refine hK _ _ w' ?_ (fun b hb => .inl hb) ((Kp.gr_own hgr).mono (fun k e => by cases e; rfl))
      rw [flatP_app]
      exact hown
    · refine grows _ cap rfl (fun h => by cases h) (by omega) ?_
      intro b' hb' j u hu
      cases hb'
      exact hr.cells rfl j u hu
theorem wpList_two (T E : TypeId) (htu : Try.prog.underlying T = some (.slice E)) (hinfo : (Try.prog.info? E).map (fun i => (i.zero, i.size, i.bytes)) = some (some (.agg #[.int .i64 0, .int .i64 0]), 2, 16)) {ops : Array Oper} {rest : List Oper} {o : Oper} {a : Act} {w : World} {Q : Exit → Act → World → Prop}
    (hg : o.guard = none) (s x : Operand) (ho : o.op = Op.call { callee := Callee.builtin Builtin.append, args := #[s, x], argTypes := #[T, T] })
    {base : Nat} {v : Value} {L : List (Int × Int)} (hr : w.ownsRow base E 2 v L.length (flatP L)) (hL : L.length ≤ 1000000) (hbase : base ≤ w.heap.size) (hs : a.eval s = v) (b : Nat) (k y : Int) (hx : a.eval x = .slice (some ⟨b, 0, none⟩) 1 1)
    (hc : ∀ j u, [Value.int .i64 k, Value.int .i64 y][j]? = some u → w.cell? ((⟨b, 0, none⟩ : Addr).add j) = some u)
    (h : ∀ a1 c1 w', w'.ownsRow base E 2 (.slice a1 (L.length + 1) c1) (L.length + 1) (flatP (L ++ [(k, y)])) → (∀ b, (Value.slice a1 (L.length + 1) c1).ownBlock = some b → v.ownBlock = some b ∨ w.heap.size ≤ b) → Kp (fun k => v.ownBlock = some k) w w' → wpList Try.prog ops Q rest (a.put o.dst (.slice a1 (L.length + 1) c1)) w') :
    wpList Try.prog ops Q (o :: rest) a w :=
  wpList_plain hg fun _ hK => wp_two T E htu hinfo hg s x ho hr hL hbase hs b k y hx hc fun a1 c1 w' h2 h3 h4 => hK _ _ (h a1 c1 w' h2 h3 h4)
/-- a frame that goes on with new blocks -/
theorem Kp.onto {S T : Nat → Prop} {a b c : World} (h : Kp S a b) (k : Kp T b c) (ht : ∀ i, T i → S i ∨ a.heap.size ≤ i) : Kp S a c :=
  ⟨k.os.trans h.os, k.tape.trans h.tape, k.output.trans h.output, Nat.le_trans h.size k.size, fun i hi hs => (k.block i (Nat.lt_of_lt_of_le hi h.size) (fun q => by
    rcases ht i q with q | q
    · exact hs q
    · omega)).trans (h.block i hi hs)⟩
/-- its box told of a row -/
theorem Hm.boxed {w : World} {p : Nat} {v0 v : Value} {L : List (Int × Int)} (hb : w.rowIs p 43 1 (fun _ => v0)) (hr : w.ownsRow (p + 1) 45 2 v L.length (flatP L)) : Hm (w.setCell ⟨p, 0, none⟩ v) p v L := by
  refine ⟨(hb.set 0 _).congr fun i hi => if_pos (by omega), hr.1, ?_⟩
  rcases hr.2 with h0 | ⟨b, cap, cur, rfl, hb, hg, r⟩
  · exact .inl h0
  · exact .inr ⟨b, cap, cur, rfl, hb, (Below.heap_setCell w ⟨p, 0, none⟩ _ b (by show b ≠ p; omega)).trans hg, r⟩
theorem hpush_nil (k x : Int) (w : World) : Calls Try.prog 9 #[.pointer none, .int .i64 k, .int .i64 x] w fun e w' => e = .returned (.tuple #[]) ∧ w' = w := by
  go_enter Try.func9, Try.ntmps9
  go_wp2
  refine bodyPost_ret (results_none rfl _ _ _) rfl ?_
  exact ⟨rfl, rfl⟩

set_option maxHeartbeats 4000000 in
theorem hpush_any {w : World} {p : Nat} {v : Value} {L : List (Int × Int)} (h : Hm w p v L) (hn : L.length ≤ 999999) (hr : HpOk L) (k x : Int) :
    Calls Try.prog 9 #[.pointer (some ⟨p, 0, none⟩), .int .i64 k, .int .i64 x] w fun e w' => e = .returned (.tuple #[]) ∧ (∃ v' M, Hm w' p v' M ∧ M.Perm (L ++ [(k, x)]) ∧ HpOk M ∧ ∀ b, OfH p v' b → OfH p v b ∨ w.heap.size ≤ b) ∧ Kp (OfH p v) w w' := by
  obtain ⟨a, c, rfl, c0, f0, hlc, hc, hnil⟩ := h.form
  have hp := h.box.lt
  have HH := hide h
  have HR := hide hr
  have hpo : ∀ b, (Value.slice a L.length c).ownBlock = some b → b ≠ p := fun b hb => by have := (h.row.lt b hb).1; omega
  clear h hr hnil
  go_enter Try.func9, Try.ntmps9
  go_wp2_with (at_builtin; refine wpList_two 41 45 Try.underlying41 info_waiter rfl _ _ rfl (HH.out.gr ((Gr.refl w).alloc (.cells #[.int .i64 k, .int .i64 x] 45))).row (by omega) (by rw [World.size_alloc]; omega) rfl w.heap.size k x rfl (alloc_two _ _ _ _) ?_; intro a1 c1 w1 hown hob hkp; have d0 := hkp.row (row_gr HH.out.box ((Gr.refl w).alloc (.cells #[.int .i64 k, .int .i64 x] 45))) (fun e => hpo p e rfl); have e0 := d0.cell (i := 0) (by omega); have g0 := d0.frozen 0)
  have hm := Hm.boxed (L := L ++ [(k, x)]) d0 (by simpa using hown)
  have hkp2 : Kp (OfH p (.slice a L.length c)) w (w1.setCell ⟨p, 0, none⟩ (.slice a1 (L.length + 1) c1)) :=
    Kp.set (Gr.kpb ((Gr.refl w).alloc _) (hkp.mono fun b hb => .inr hb)) (p := ⟨p, 0, none⟩) (.inl (.inl rfl)) _
  have hob2 : ∀ b, OfH p (.slice a1 (L.length + 1) c1) b → OfH p (.slice a L.length c) b ∨ w.heap.size ≤ b := fun b hb => by
    rcases hb with hb | hb
    · exact .inl (.inl hb)
    · rcases hob b hb with q | q
      · exact .inl (.inr q)
      · rw [World.size_alloc] at q
        exact .inr (by omega)
  refine (rise_any hm L.length (by simp; omega) (by simp) (rise_push HR.out (k, x))).mono ?_
  rintro e w2 ⟨rfl, ⟨M, hM, hp, ho⟩, hk⟩
  clear hm hown hkp d0 e0 g0
  go_wp2_with fail
  go_end0
  exact ⟨rfl, ⟨_, M, hM, hp, ho, hob2⟩, hkp2.onto hk hob2⟩

set_option maxHeartbeats 1000000 in
theorem htop_any {w : World} {p : Nat} {v : Value} {L : List (Int × Int)} (h : Hm w p v L) (h0 : 0 < L.length) :
    Calls Try.prog 10 #[.pointer (some ⟨p, 0, none⟩)] w fun e w' => e = .returned (.tuple #[.int .i64 (elP L 0).1, .int .i64 (elP L 0).2, .bool true]) ∧ Gr w w' := by
  obtain ⟨g, c, rfl, c0, f0, hlc, hc, hpg, hel, hfr⟩ := h.at h0
  obtain ⟨a1, a2⟩ := hel 0 h0
  rw [Nat.zero_mul] at a1 a2
  have HH := hide h
  have he : ((L.length : Int) == 0) = false := by rw [beq_eq_false_iff_ne]; omega
  have hn0 : (0 : Int) < (L.length : Int) := by omega
  clear hel hfr h
  go_enter Try.func10, Try.ntmps10
  go_wp2_with (go_at_call 12; refine (hlen_any HH.out).mono ?_; rintro e w' ⟨rfl, rfl⟩)
  go_region
  all_goals
    go_wp2
    go_ret3
    exact ⟨rfl, (by repeat (first | exact Gr.refl _ | assumption | exact Dr.gr (by assumption) | refine Gr.alloc ?_ _ | refine Gr.drewN ?_ _ | refine Gr.drew ?_ | refine Gr.trans ?_ (by assumption) | refine Gr.trans ?_ (Dr.gr (by assumption))))⟩
theorem htop_no {w : World} {p : Nat} {v : Value} (h : Hm w p v []) :
    Calls Try.prog 10 #[.pointer (some ⟨p, 0, none⟩)] w fun e w' => e = .returned (.tuple #[.int .i64 0, .int .i64 0, .bool false]) ∧ w' = w := by
  go_enter Try.func10, Try.ntmps10
  go_wp2_with (go_at_call 12; refine (hlen_any h).mono ?_; rintro e w' ⟨rfl, rfl⟩)
  go_ret3
  exact ⟨rfl, rfl⟩
theorem htop_nil (w : World) : Calls Try.prog 10 #[.pointer none] w fun e w' => e = .returned (.tuple #[.int .i64 0, .int .i64 0, .bool false]) ∧ w' = w := by
  go_enter Try.func10, Try.ntmps10
  go_wp2_with (go_at_call 12; refine (hlen_nil _).mono ?_; rintro e w' ⟨rfl, rfl⟩)
  go_ret3
  exact ⟨rfl, rfl⟩
set_option maxHeartbeats 1000000 in
theorem hpop_any {w : World} {p : Nat} {v : Value} {L : List (Int × Int)} (h : Hm w p v L) (hn : L.length ≤ 1000000) (h0 : 0 < L.length) (hr : HpOk L) :
    Calls Try.prog 11 #[.pointer (some ⟨p, 0, none⟩)] w fun e w' => e = .returned (.tuple #[.int .i64 (elP L 0).1, .int .i64 (elP L 0).2, .bool true]) ∧ (∃ v' M, Hm w' p v' M ∧ M.Perm (dropL L) ∧ HpOk M ∧ ∀ k, OfH p v' k → OfH p v k) ∧ Kp (OfH p v) w w' := by
  have HH := hide h
  have HR := hide hr
  clear h hr
  go_enter Try.func11, Try.ntmps11
  go_wp2_with (first | (go_at_call 10; refine (htop_any HH.out h0).mono ?_; rintro e w1 ⟨rfl, hg1⟩) | (go_at_call 15; refine (drop_any (HH.out.gr hg1) hn h0 HR.out).mono ?_; rintro e w2 ⟨rfl, hM, hk2⟩))
  go_ret3
  exact ⟨rfl, hM, Gr.kpb hg1 hk2⟩
theorem hpop_no {w : World} {p : Nat} {v : Value} (h : Hm w p v []) :
    Calls Try.prog 11 #[.pointer (some ⟨p, 0, none⟩)] w fun e w' => e = .returned (.tuple #[.int .i64 0, .int .i64 0, .bool false]) ∧ w' = w := by
  go_enter Try.func11, Try.ntmps11
  go_wp2_with (go_at_call 10; refine (htop_no h).mono ?_; rintro e w' ⟨rfl, rfl⟩)
  go_ret3
  exact ⟨rfl, rfl⟩
theorem hpop_nil (w : World) : Calls Try.prog 11 #[.pointer none] w fun e w' => e = .returned (.tuple #[.int .i64 0, .int .i64 0, .bool false]) ∧ w' = w := by
  go_enter Try.func11, Try.ntmps11
  go_wp2_with (go_at_call 10; refine (htop_nil _).mono ?_; rintro e w' ⟨rfl, rfl⟩)
  go_ret3
  exact ⟨rfl, rfl⟩

end Go.Proofs.Ytnkjehbbcjnfcaa
