/- All that is pushed, sorted; two heaps side by side. No condition. -/
import Derived.Test.YtnkjehbbcjnfcaaHTold13
namespace Go.Proofs.Ytnkjehbbcjnfcaa
open Go.RowKit
set_option maxRecDepth 20000

/-- these, put in one behind the other -/
def srtP (L : List (Int × Int)) : List (Int × Int) := L.foldl (fun S x => insP x S) []
theorem srtP_app (L : List (Int × Int)) (x : Int × Int) : srtP (L ++ [x]) = insP x (srtP L) := by simp [srtP, List.foldl_append]
theorem srtP_is (L : List (Int × Int)) : ∀ S, SrtP S → SrtP (L.foldl (fun S x => insP x S) S) ∧ (L.foldl (fun S x => insP x S) S).Perm (L ++ S) := by
  induction L with
  | nil => exact fun S h => ⟨h, .refl _⟩
  | cons x L ih =>
    intro S h
    obtain ⟨a, b⟩ := ih (insP x S) (insP_srt x S h)
    refine ⟨a, b.trans ?_⟩
    exact ((insP_perm x S).append_left L).trans List.perm_middle
theorem srtP_srt (L : List (Int × Int)) : SrtP (srtP L) := (srtP_is L [] List.Pairwise.nil).1
theorem srtP_perm (L : List (Int × Int)) : (srtP L).Perm L := by simpa [srtP] using (srtP_is L [] List.Pairwise.nil).2
theorem srtP_len (L : List (Int × Int)) : (srtP L).length = L.length := (srtP_perm L).length_eq
theorem srtP_eq {A B : List (Int × Int)} (h : A.Perm B) : srtP A = srtP B := srtP_unique (srtP_srt A) (srtP_srt B) (((srtP_perm A).trans h).trans (srtP_perm B).symm)
/-- numbers turned about -/
theorem rot_eq (n N : Nat) (h : n ≤ N) : (List.range N).map (fun i => (i + n) % N) = (List.range (N - n)).map (fun i => n + i) ++ List.range n := by
  apply List.ext_getElem?
  intro i
  by_cases hi : i < N
  · rw [List.getElem?_map, List.getElem?_range hi, Option.map_some]
    by_cases hc : i < N - n
    · rw [List.getElem?_append_left (by simpa using hc), List.getElem?_map, List.getElem?_range hc, Option.map_some, Nat.mod_eq_of_lt (by omega), Nat.add_comm]
    · rw [List.getElem?_append_right (by simp; omega), List.length_map, List.length_range, List.getElem?_range (by omega), show (i + n) % N = i - (N - n) by rw [Nat.mod_eq_sub_mod (by omega), Nat.mod_eq_of_lt (by omega)]; omega]
  · rw [List.getElem?_eq_none (by simp; omega), List.getElem?_eq_none (by simp; omega)]
theorem rot_perm {α : Type} (g : Nat → α) (n N : Nat) (h : n ≤ N) : ((List.range N).map (fun i => g ((i + n) % N))).Perm ((List.range N).map g) := by
  have e : (List.range N).map (fun i => g ((i + n) % N)) = ((List.range N).map (fun i => (i + n) % N)).map g := by rw [List.map_map]; rfl
  rw [e, rot_eq n N h]
  refine List.Perm.map g (List.perm_append_comm.trans ?_)
  rw [show List.range N = List.range (n + (N - n)) by congr 1; omega, List.range_add]
theorem drop_at {L : List (Int × Int)} {i : Nat} (h : i < L.length) : L.drop i = elP L i :: L.drop (i + 1) := by rw [← elP_getElem h]; exact List.drop_eq_getElem_cons h

/-- two heaps, each apart from the other -/
structure Two (w0 u : World) (p : Nat) (S : List (Int × Int)) (q : Nat) (T : List (Int × Int)) : Prop where
  mem : ∃ x M, Hs w0 u p S (OfH q x) ∧ Hm u q x M ∧ Wt M T ∧ ∀ k, OfH q x k → w0.heap.size ≤ k
variable {w0 u : World} {p q : Nat} {S T : List (Int × Int)}
theorem Two.g (h : Two w0 u p S q T) : Gr w0 u := by
  obtain ⟨x, M, h1, -⟩ := h.mem
  exact h1.g
theorem Two.gr {u' : World} (h : Two w0 u p S q T) (k : Gr u u') : Two w0 u' p S q T := by
  obtain ⟨x, M, h1, h2, h3⟩ := h.mem
  exact ⟨x, M, h1.gr k, h2.gr k, h3⟩
theorem two_new (h : Hs w0 u p S (fun _ => False)) :
    Calls Try.prog 7 #[] u fun e u' => ∃ q, e = .returned (.pointer (some ⟨q, 0, none⟩)) ∧ Two w0 u' p S q [] := by
  refine (hnew_any u).mono ?_
  rintro e u' ⟨⟨q, rfl, rfl, hm⟩, hs, hg⟩
  refine ⟨_, rfl, _, _, h.more hg (fun t ht => ?_), hm, Wt.nil, fun t ht => ?_⟩
  all_goals rcases ht with rfl | ht
  · exact ⟨.inr (Nat.le_refl _), by omega⟩
  · cases ht
  · exact Below.size h.g
  · cases ht
theorem pushA (h : Two w0 u p S q T) (k x : Int) (hn : S.length ≤ 999999) :
    Calls Try.prog 9 #[.pointer (some ⟨p, 0, none⟩), .int .i64 k, .int .i64 x] u fun e u' => e = .returned (.tuple #[]) ∧ Two w0 u' p (insP (k, x) S) q T := by
  obtain ⟨y, M, h1, h2, h3, h4⟩ := h.mem
  refine (spush h1 k x hn).mono ?_
  rintro e u' ⟨rfl, h5, hk⟩
  exact ⟨rfl, y, M, h5, h2.kp hk (fun b hb q => q hb), h3, h4⟩
theorem pushB (h : Two w0 u p S q T) (k x : Int) (hn : T.length ≤ 999999) :
    Calls Try.prog 9 #[.pointer (some ⟨q, 0, none⟩), .int .i64 k, .int .i64 x] u fun e u' => e = .returned (.tuple #[]) ∧ Two w0 u' p S q (insP (k, x) T) := by
  obtain ⟨y, M, h1, h2, h3, h4⟩ := h.mem
  refine (hpush_any h2 (by rw [h3.len]; exact hn) h3.ok k x).mono ?_
  rintro e u' ⟨rfl, ⟨y', M', hM, hp, ho, hb⟩, hk⟩
  refine ⟨rfl, y', M', h1.move hk (fun b hb => ⟨hb, h4 b hb⟩) (fun t ht => ⟨hb t ht, hM.lt ht⟩), hM, h3.push (k, x) hp ho, fun t ht => ?_⟩
  rcases hb t ht with r | r
  · exact h4 t r
  · exact Nat.le_trans (Below.size h1.g) r
theorem popA {y : Int × Int} (h : Two w0 u p (y :: S) q T) (hn : S.length ≤ 999999) :
    Calls Try.prog 11 #[.pointer (some ⟨p, 0, none⟩)] u fun e u' => e = .returned (.tuple #[.int .i64 y.1, .int .i64 y.2, .bool true]) ∧ Two w0 u' p S q T := by
  obtain ⟨x, M, h1, h2, h3, h4⟩ := h.mem
  refine (spop h1 hn).mono ?_
  rintro e u' ⟨rfl, h5, hk⟩
  exact ⟨rfl, x, M, h5, h2.kp hk (fun b hb q => q hb), h3, h4⟩
theorem popB {y : Int × Int} (h : Two w0 u p S q (y :: T)) (hn : T.length ≤ 999999) :
    Calls Try.prog 11 #[.pointer (some ⟨q, 0, none⟩)] u fun e u' => e = .returned (.tuple #[.int .i64 y.1, .int .i64 y.2, .bool true]) ∧ Two w0 u' p S q T := by
  obtain ⟨x, M, h1, h2, h3, h4⟩ := h.mem
  have hl := h3.len
  rw [List.length_cons] at hl
  refine (hpop_any h2 (by omega) (by omega) h3.ok).mono ?_
  rw [h3.top]
  rintro e u' ⟨rfl, ⟨y', M', hM, hp, ho, hb⟩, hk⟩
  exact ⟨rfl, y', M', h1.move hk (fun b hb => ⟨hb, h4 b hb⟩) (fun t ht => ⟨.inl (hb t ht), hM.lt ht⟩), hM, h3.pop hp ho, fun t ht => h4 t (hb t ht)⟩
theorem lenA (h : Two w0 u p S q T) :
    Calls Try.prog 12 #[.pointer (some ⟨p, 0, none⟩)] u fun e u' => e = .returned (.int .i64 (S.length : Int)) ∧ u' = u := by
  obtain ⟨x, M, h1, h2, h3, h4⟩ := h.mem
  exact slen h1
theorem lenB (h : Two w0 u p S q T) :
    Calls Try.prog 12 #[.pointer (some ⟨q, 0, none⟩)] u fun e u' => e = .returned (.int .i64 (T.length : Int)) ∧ u' = u := by
  obtain ⟨x, M, h1, h2, h3, h4⟩ := h.mem
  rw [← h3.len]
  exact hlen_any h2
end Go.Proofs.Ytnkjehbbcjnfcaa
