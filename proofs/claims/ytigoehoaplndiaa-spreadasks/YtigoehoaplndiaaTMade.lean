/- The document's OwnTile (a copy in memory of its own) and MadeTile (a tile of numbers). -/
import Derived.Test.YtigoehoaplndiaaTRef
import Derived.Deep.RegionLaw
namespace Go.Proofs.Ytigoehoaplndiaa
open Go.RowKit

theorem own_mono {w : World} {base base' : Nat} {e : TypeId} {v : Value} {n : Nat} {xs : List Value} (h : w.ownsRow base e 1 v n xs) (hb : base' ≤ base) : w.ownsRow base' e 1 v n xs := by
  refine ⟨h.1, ?_⟩
  rcases h.2 with h0 | ⟨b, cap, cur, rfl, hb', r⟩
  · exact .inl h0
  · exact .inr ⟨b, cap, cur, rfl, by omega, r⟩

theorem cel_at {w : World} {b o n : Nat} {f : Nat → Int} (hc : ∀ i, i < n → w.cell? ⟨b, o + i, none⟩ = some (.int .u8 (f i))) (hB : b < w.heap.size) {w' : World} (g : Gr w w') :
    ∀ j u, (cel .u8 n f)[j]? = some u → w'.cell? ((⟨b, o, none⟩ : Addr).add j) = some u := by
  intro j u hj
  have hjn : j < n := by
    have := (List.getElem?_eq_some_iff.1 hj).1
    rw [cel_len] at this
    exact this
  have e : (⟨b, o, none⟩ : Addr).add j = ⟨b, o + j, none⟩ := by unfold Addr.add; split <;> simp_all
  rw [cel_get _ _ _ hjn] at hj
  rw [e, g.cell b _ hB, hc j hjn]
  exact hj

/-- an owned row of bytes, not nil -/
structure OwnB (w : World) (base g n c : Nat) (f : Nat → Int) : Prop where
  own : w.ownsRow base 5 1 (.slice (some ⟨g, 0, none⟩) n c) n (cel .u8 n f)
  byte : ∀ i, i < n → 0 ≤ f i ∧ f i ≤ 255
theorem OwnB.sl {w : World} {base g n c : Nat} {f : Nat → Int} (h : OwnB w base g n c f) : n ≤ c ∧ c ≤ maxLen ∧ base ≤ g ∧ g < w.heap.size ∧ Sl w (some ⟨g, 0, none⟩) n f := by
  obtain ⟨a, cap, e, q1, q2, q3⟩ := Sl.of_own h.own h.byte
  simp only [Value.slice.injEq] at e
  obtain ⟨rfl, _, rfl⟩ := e
  have := h.own.lt g rfl
  exact ⟨q1, q2, this.1, this.2, q3⟩
theorem OwnB.gr {w w' : World} {base g n c : Nat} {f : Nat → Int} (h : OwnB w base g n c f) (k : Gr w w') : OwnB w' base g n c f := ⟨own_gr h.own k, h.byte⟩

theorem own_some {w1 : World} {base n : Nat} {f : Nat → Int} {v v' : Value} (hown : w1.ownsRow base 5 1 v' (0 + n) ([] ++ cel .u8 n f)) (hnil : v' = .slice none 0 0 ↔ v = .slice none 0 0 ∧ n = 0) (hv : ¬ v = .slice none 0 0) :
    ∃ g c', v' = .slice (some ⟨g, 0, none⟩) n c' ∧ w1.ownsRow base 5 1 (.slice (some ⟨g, 0, none⟩) n c') n (cel .u8 n f) ∧ base ≤ g := by
  rw [Nat.zero_add, List.nil_append] at hown
  rcases hown.2 with ⟨h0, _⟩ | ⟨g, cap, cur, rfl, hb, r⟩
  · exact absurd (hnil.1 h0).1 hv
  · exact ⟨g, cap, rfl, hown, hb⟩
theorem ownTile_end {w1 : World} {base B : Nat} {n g c' : Nat} {f : Nat → Int} (hf : ∀ i, i < n → 0 ≤ f i ∧ f i ≤ 255) (hown : w1.ownsRow base 5 1 (.slice (some ⟨g, 0, none⟩) n c') n (cel .u8 n f)) (hB : B + 2 ≤ base) (x0 x1 x2 y : Value) :
    OwnB ((((w1.setCell ⟨B, 2, none⟩ y).setCell ⟨B + 1, 0, none⟩ x0).setCell ⟨B + 1, 1, none⟩ x1).setCell ⟨B + 1, 2, none⟩ x2) B g n c' f := by
  refine ⟨own_mono (base := base) ?_ (by omega), hf⟩
  exact ownsRow_setCell_below (ownsRow_setCell_below (ownsRow_setCell_below (ownsRow_setCell_below hown (a := ⟨B, 2, none⟩) (by show B < base; omega) y) (a := ⟨B + 1, 0, none⟩) (by show B + 1 < base; omega) x0) (a := ⟨B + 1, 1, none⟩) (by show B + 1 < base; omega) x1) (a := ⟨B + 1, 2, none⟩) (by show B + 1 < base; omega) x2

set_option maxHeartbeats 2000000 in
theorem ownTile_any (W H : Int) (a : Option Addr) (n cap : Nat) (f : Nat → Int) (w : World) (h : Sl w a n f) (hbig : n ≤ 140737488355328) (ha : a = none → n = 0 ∧ cap = 0) :
    Calls Try.prog 9 #[.agg #[.int .i64 W, .int .i64 H, .slice a n cap]] w fun e w' => (∃ g c', e = .returned (.agg #[.int .i64 W, .int .i64 H, .slice (some ⟨g, 0, none⟩) n c']) ∧ OwnB w' w.heap.size g n c' f) ∧ Gr w w' := by
  obtain ⟨i0, hi, hz0, hz1, hz2⟩ := info_parts info_u8
  have hbyte := hide h.byte
  cases a with
  | none =>
    obtain ⟨rfl, rfl⟩ := ha rfl
    have h0 : ((((w.alloc (.cells #[.int .i64 W, .int .i64 H, .slice (some ⟨w.heap.size + 1 + 1, 0, none⟩) 0 0] 24)).alloc (.cells #[.int .i64 W, .int .i64 H, .slice (some ⟨w.heap.size + 1 + 1, 0, none⟩) 0 0] 24)).alloc (.cells #[] 5))).ownsRow w.heap.size 5 1 (.slice (some ⟨w.heap.size + 1 + 1, 0, none⟩) 0 0) 0 [] := by
      have := World.ownsRow_made (base := w.heap.size) (e := 5) (size := 1) ((w.alloc (.cells #[.int .i64 W, .int .i64 H, .slice (some ⟨w.heap.size + 1 + 1, 0, none⟩) 0 0] 24)).alloc (.cells #[.int .i64 W, .int .i64 H, .slice (some ⟨w.heap.size + 1 + 1, 0, none⟩) 0 0] 24)) #[] 0 (by simp only [World.size_alloc]; omega) (Nat.zero_le _) rfl
      simpa only [World.size_alloc] using this
    have H0 := hide h0
    clear h0
    go_enter Try.func9, Try.ntmps9
    go_wp2
    exact bodyPost_ret (v := .agg #[.int .i64 W, .int .i64 H, .slice (some ⟨w.heap.size + 1 + 1, 0, none⟩) 0 0]) (by simp [results, Try.results9, go_sem]) rfl ⟨⟨_, _, rfl, H0.out, hbyte.out⟩, (by repeat (first | exact Gr.refl _ | assumption | exact Dr.gr (by assumption) | refine Gr.alloc ?_ _ | refine Gr.drewN ?_ _ | refine Gr.drew ?_ | refine Gr.trans ?_ (by assumption) | refine Gr.trans ?_ (Dr.gr (by assumption))))⟩
  | some ad =>
    obtain ⟨ad', hc⟩ : ∃ ad' : Addr, some ad = some ad' ∧ ∀ w', Gr w w' → ∀ j u, (cel .u8 n f)[j]? = some u → w'.cell? (ad'.add j) = some u := by
      rcases h.has with h0 | ⟨b, o, e, hB, hc⟩
      · exact ⟨ad, rfl, fun w' g j u hj => by subst h0; simp [cel] at hj⟩
      · exact ⟨⟨b, o, none⟩, e, fun w' g => cel_at hc hB g⟩
    obtain ⟨e, hc⟩ := hc
    cases e
    have HC := hide hc
    clear hc
    have h0 : (((w.alloc (.cells #[.int .i64 W, .int .i64 H, .slice (some ad) n cap] 24)).alloc (.cells #[.int .i64 0, .int .i64 0, .slice none 0 0] 24)).alloc (.cells #[] 5)).ownsRow (w.heap.size + 2) 5 1 (.slice (some ⟨w.heap.size + 1 + 1, 0, none⟩) 0 0) 0 [] := by
      have := World.ownsRow_made (base := w.heap.size + 2) (e := 5) (size := 1) ((w.alloc (.cells #[.int .i64 W, .int .i64 H, .slice (some ad) n cap] 24)).alloc (.cells #[.int .i64 0, .int .i64 0, .slice none 0 0] 24)) #[] 0 (by simp only [World.size_alloc]; omega) (Nat.zero_le _) rfl
      simpa only [World.size_alloc] using this
    have H0 := hide h0
    clear h0
    go_enter Try.func9, Try.ntmps9
    go_wp2_with (at_builtin; go_must (refine wpList_append_own _ rfl _ _ 22 rfl (w.heap.size + 2) 5 i0 (.int .u8 0) 1 1 Try.underlying22 hi hz0 hz1 hz2 rfl (by decide) (.slice (some ⟨w.heap.size + 1 + 1, 0, none⟩) 0 0) _ _ rfl H0.out ad n cap (cel .u8 n f) rfl (by simp [cel_len]) (HC.out _ (by repeat (first | exact Gr.refl _ | assumption | exact Dr.gr (by assumption) | refine Gr.alloc ?_ _ | refine Gr.drewN ?_ _ | refine Gr.drew ?_ | refine Gr.trans ?_ (by assumption) | refine Gr.trans ?_ (Dr.gr (by assumption))))) (cel_one _ _ _) (by unfold maxLen; omega) (by omega) (by simp only [World.size_alloc]; omega) ?_; intro v' w1 hown hgrow hnil); go_must (have hgr := Gr.grown (a := (w.alloc (.cells #[.int .i64 W, .int .i64 H, .slice (some ad) n cap] 24)).alloc (.cells #[.int .i64 0, .int .i64 0, .slice none 0 0] 24)) (by repeat (first | exact Gr.refl _ | assumption | exact Dr.gr (by assumption) | refine Gr.alloc ?_ _ | refine Gr.drewN ?_ _ | refine Gr.drew ?_ | refine Gr.trans ?_ (by assumption) | refine Gr.trans ?_ (Dr.gr (by assumption)))) hgrow (fun k hk => (by have hk' : w.heap.size + 1 + 1 = k := Option.some.inj hk; simp only [World.size_alloc]; omega))); obtain ⟨ho, hf, hs⟩ := hgr.old; go_must (obtain ⟨g, c', rfl, hown', hge⟩ := own_some hown hnil (by simp)); clear hown hnil; go_must (have hcB : (w1.setCell ⟨w.heap.size, 2, none⟩ (.slice (some ⟨g, 0, none⟩) n c')).cell? ⟨w.heap.size, 2, none⟩ = some (.slice (some ⟨g, 0, none⟩) n c') := World.cell?_setCell_same _ _ _ (u := .slice (some ad) n cap) (by rw [ho _ _ (by simp only [World.size_alloc]; omega)]; simp [go_sem])))
    exact bodyPost_ret (v := .agg #[.int .i64 W, .int .i64 H, .slice (some ⟨g, 0, none⟩) n c']) (by simp [results, Try.results9, go_sem, ho]) rfl ⟨⟨g, c', rfl, ownTile_end hbyte.out hown' (by omega) _ _ _ _⟩, (by repeat (first | exact Gr.refl _ | assumption | exact Dr.gr (by assumption) | refine Gr.alloc ?_ _ | refine Gr.drewN ?_ _ | refine Gr.drew ?_ | (refine Gr.set ?_ (by first | exact Nat.le_refl _ | exact Nat.le_succ _ | (show _ ≤ _; omega) | (simp only [World.size_alloc] at *; omega)) _) | refine Gr.trans ?_ (by assumption) | refine Gr.trans ?_ (Dr.gr (by assumption))))⟩

end Go.Proofs.Ytigoehoaplndiaa
