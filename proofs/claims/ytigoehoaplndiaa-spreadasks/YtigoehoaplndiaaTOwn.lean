/- Rows that a call makes, their content by the index; string(b) of bytes. No condition. -/
import Derived.Test.YtigoehoaplndiaaTWalks
namespace Go.Proofs.Ytigoehoaplndiaa
open Go.RowKit

theorem info_u8 : (Try.prog.info? 5).map (fun i => (i.zero, i.size, i.bytes)) = some (some (.int .u8 0), 1, 1) := by kernel_rfl
theorem info_int : (Try.prog.info? 3).map (fun i => (i.zero, i.size, i.bytes)) = some (some (.int .i64 0), 1, 8) := by kernel_rfl

/-- the cells of a row, by the index -/
def cel (k : IntKind) (n : Nat) (f : Nat → Int) : List Value := (List.range n).map fun i => .int k (f i)
theorem cel_len (k : IntKind) (n : Nat) (f : Nat → Int) : (cel k n f).length = n := by simp [cel]
theorem cel_get (k : IntKind) (n : Nat) (f : Nat → Int) {i : Nat} (h : i < n) : (cel k n f)[i]? = some (.int k (f i)) := by simp [cel, h]
theorem cel_one (k : IntKind) (n : Nat) (f : Nat → Int) : ∀ u ∈ cel k n f, u.oneCell' = true := by
  intro u hu
  obtain ⟨i, _, rfl⟩ := List.mem_map.1 hu
  rfl
theorem cel_congr {k : IntKind} {n : Nat} {f g : Nat → Int} (h : ∀ i, i < n → f i = g i) : cel k n f = cel k n g := by
  unfold cel
  exact List.map_congr_left fun i hi => by rw [h i (List.mem_range.1 hi)]
theorem cel_succ (k : IntKind) (n : Nat) (f : Nat → Int) : cel k (n + 1) f = cel k n f ++ [.int k (f n)] := by simp [cel, List.range_succ]
theorem cel_set (k : IntKind) (n : Nat) (f : Nat → Int) (j : Nat) (x : Int) : (cel k n f).set j (.int k x) = cel k n (fun i => if i = j then x else f i) := by
  apply List.ext_getElem?
  intro i
  rw [List.getElem?_set]
  by_cases hi : i < n
  · rw [cel_get _ _ _ hi, cel_get _ _ _ hi]
    by_cases e : j = i
    · subst e; simp [cel_len, hi]
    · rw [if_neg e, if_neg (by omega)]
  · have h1 : (cel k n f)[i]? = none := by simp [cel_len]; omega
    have h2 : (cel k n fun i => if i = j then x else f i)[i]? = none := by simp [cel_len]; omega
    rw [h1, h2]
    split <;> simp [cel_len]; omega

/-- The slice at a, of n ints, reads as f. -/
def SlI (w : World) (a : Option Addr) (n : Nat) (f : Nat → Int) : Prop :=
  n = 0 ∨ ∃ b o, a = some ⟨b, o, none⟩ ∧ b < w.heap.size ∧ ∀ i, i < n → w.cell? ⟨b, o + i, none⟩ = some (.int .i64 (f i))
theorem SlI.gr {w w' : World} {a : Option Addr} {n : Nat} {f : Nat → Int} (h : SlI w a n f) (g : Gr w w') : SlI w' a n f := by
  rcases h with h0 | ⟨b, o, rfl, hb, hc⟩
  · exact .inl h0
  · exact .inr ⟨b, o, rfl, Nat.lt_of_lt_of_le hb g.size, fun i hi => by rw [g.cell b _ hb]; exact hc i hi⟩
theorem SlI.at {w : World} {a : Option Addr} {n : Nat} {f : Nat → Int} (h : SlI w a n f) (hn : 0 < n) : ∃ b o, a = some ⟨b, o, none⟩ ∧ b < w.heap.size ∧ ∀ i, i < n → w.cell? ⟨b, o + i, none⟩ = some (.int .i64 (f i)) := by
  rcases h with h0 | h1
  · omega
  · exact h1

theorem own_form {w : World} {base : Nat} {e : TypeId} {v : Value} {n : Nat} {k : IntKind} {f : Nat → Int} (h : w.ownsRow base e 1 v n (cel k n f)) :
    ∃ a cap, v = .slice a n cap ∧ n ≤ cap ∧ cap ≤ maxLen ∧ (n = 0 ∨ ∃ g, a = some ⟨g, 0, none⟩ ∧ base ≤ g ∧ g < w.heap.size ∧ ∀ i, i < n → w.cell? ⟨g, 0 + i, none⟩ = some (.int k (f i))) := by
  rcases h.2 with ⟨rfl, rfl⟩ | ⟨g, cap, cur, rfl, hb, hg, hn, hm, hs, ht⟩
  · exact ⟨none, 0, rfl, Nat.le_refl _, Nat.zero_le _, .inl rfl⟩
  · refine ⟨_, cap, rfl, hn, hm, .inr ⟨g, rfl, hb, (Array.getElem?_eq_some_iff.1 hg).1, fun i hi => ?_⟩⟩
    rw [Nat.zero_add, h.cellAt i (by omega), cel_get _ _ _ hi]
theorem Sl.of_own {w : World} {base : Nat} {e : TypeId} {v : Value} {n : Nat} {f : Nat → Int} (h : w.ownsRow base e 1 v n (cel .u8 n f)) (hb : ∀ i, i < n → 0 ≤ f i ∧ f i ≤ 255) :
    ∃ a cap, v = .slice a n cap ∧ n ≤ cap ∧ cap ≤ maxLen ∧ Sl w a n f := by
  obtain ⟨a, cap, rfl, h1, h2, h3⟩ := own_form h
  refine ⟨a, cap, rfl, h1, h2, hb, ?_⟩
  rcases h3 with h3 | ⟨g, rfl, _, hg, hc⟩
  · exact .inl h3
  · exact .inr ⟨g, 0, rfl, hg, hc⟩
theorem SlI.of_own {w : World} {base : Nat} {e : TypeId} {v : Value} {n : Nat} {f : Nat → Int} (h : w.ownsRow base e 1 v n (cel .i64 n f)) :
    ∃ a cap, v = .slice a n cap ∧ n ≤ cap ∧ cap ≤ maxLen ∧ SlI w a n f := by
  obtain ⟨a, cap, rfl, h1, h2, h3⟩ := own_form h
  refine ⟨a, cap, rfl, h1, h2, ?_⟩
  rcases h3 with h3 | ⟨g, rfl, _, hg, hc⟩
  · exact .inl h3
  · exact .inr ⟨g, 0, rfl, hg, hc⟩
theorem own_gr {w w' : World} {base : Nat} {e : TypeId} {v : Value} {n : Nat} {xs : List Value} (h : w.ownsRow base e 1 v n xs) (g : Gr w w') : w'.ownsRow base e 1 v n xs := by
  refine ⟨h.1, ?_⟩
  rcases h.2 with h0 | ⟨b, cap, cur, rfl, hb, hg, r⟩
  · exact .inl h0
  · exact .inr ⟨b, cap, cur, rfl, hb, (Below.block g b (Array.getElem?_eq_some_iff.1 hg).1).trans hg, r⟩

/-- the bytes as a string -/
def strF (n : Nat) (f : Nat → Int) : ByteArray := ⟨(Lib.bytesOf (lst n f)).toArray⟩
theorem run_conv {w : World} {a : Option Addr} {n : Nat} {f : Nat → Int} (h : Sl w a n f) (cap : Nat) :
    (convert 22 9 (.slice a n cap)).run Try.prog w = .ok (.string (strF n f)) w := by
  rcases h.has with h0 | ⟨b, o, rfl, _, hc⟩
  · subst h0
    rw [run_convert_bytes_string w 22 9 5 a 0 cap Try.underlying22 Try.underlying5 Try.underlying9]
    cases a <;> rfl
  · have hl : (Lib.bytesOf (lst n f)).length = n := by rw [Lib.bytesOf_length, lst_len]
    have := run_convert_bytes_back (P := Try.prog) w 22 9 5 ⟨b, o, none⟩ cap (Lib.bytesOf (lst n f)) Try.underlying22 Try.underlying5 Try.underlying9 (fun j hj => by
      have hj' : j < n := by omega
      have hb := h.byte j hj'
      have e : (⟨b, o, none⟩ : Addr).add j = ⟨b, o + j, none⟩ := by unfold Addr.add; split <;> simp_all
      rw [e, hc j hj']
      congr 2
      simp only [Lib.bytesOf, lst, List.getElem_map, List.getElem_range, UInt8.toNat_ofNat']
      omega)
    rw [hl] at this
    exact this
/-- two slices hold the same -/
def sameB (n : Nat) (f : Nat → Int) (m : Nat) (g : Nat → Int) : Bool := decide (n = m ∧ ∀ i, i < n → f i = g i)
theorem sameB_iff (n : Nat) (f : Nat → Int) (m : Nat) (g : Nat → Int) : sameB n f m g = true ↔ n = m ∧ ∀ i, i < n → f i = g i := by simp [sameB]
theorem strF_eq {n m : Nat} {f g : Nat → Int} (hf : ∀ i, i < n → 0 ≤ f i ∧ f i ≤ 255) (hg : ∀ i, i < m → 0 ≤ g i ∧ g i ≤ 255) : strF n f = strF m g ↔ n = m ∧ ∀ i, i < n → f i = g i := by
  constructor
  · intro h
    have h1 : Lib.bytesOf (lst n f) = Lib.bytesOf (lst m g) := by
      have := congrArg ByteArray.data h
      simpa [strF] using this
    have hl : n = m := by
      have := congrArg List.length h1
      simpa [Lib.bytesOf, lst_len] using this
    subst hl
    refine ⟨rfl, fun i hi => ?_⟩
    have := congrArg (fun l => l[i]?) h1
    simp only [Lib.bytesOf, List.getElem?_map, lst_get? n f hi, lst_get? n g hi, Option.map_some, Option.some.injEq] at this
    exact (byte_eq (hf i hi) (hg i hi)).1 this
  · rintro ⟨rfl, h⟩
    have : lst n f = lst n g := List.map_congr_left fun i hi => h i (List.mem_range.1 hi)
    simp [strF, this]

theorem strF_dec {n m : Nat} {f g : Nat → Int} (hf : ∀ i, i < n → 0 ≤ f i ∧ f i ≤ 255) (hg : ∀ i, i < m → 0 ≤ g i ∧ g i ≤ 255) : ((strF n f).toList == (strF m g).toList) = sameB n f m g := by
  rw [Bool.eq_iff_iff, beq_iff_eq, sameB_iff, ← strF_eq hf hg, Lib.toList_data, Lib.toList_data]
  constructor
  · intro h
    exact ByteArray.ext (Array.toList_inj.1 h)
  · intro h; rw [h]

end Go.Proofs.Ytigoehoaplndiaa
