/- What ring.New, bucket, takes, At, Len answer: no condition beside that of a ring in memory. -/
import Derived.Test.YtigoehoaplndiaaQBase
namespace Go.Proofs.Ytigoehoaplndiaa
open Go.RowKit
set_option maxRecDepth 20000

/-- the cells of a ring that nothing was laid into -/
def zcR : Array Value := #[.int .i64 0, .int .i64 0] ++ Array.replicate 256 (.slice none 0 0)
theorem zero_run (w : World) : Sem.run Try.prog (zeroValue 76) w = .ok (.agg zcR) w := by kernel_rfl
theorem zcR_size : zcR.size = 258 := by simp [zcR]
theorem zcR_get (i : Nat) (hi : i < 258) : zcR[i]? = some (if i < 2 then .int .i64 0 else .slice none 0 0) := by
  rcases (by omega : i = 0 ∨ i = 1 ∨ 2 ≤ i) with rfl | rfl | h
  · unfold zcR
    rw [Array.getElem?_append_left (by simp)]
    rfl
  · unfold zcR
    rw [Array.getElem?_append_left (by simp)]
    rfl
  · have e : zcR[i]? = (Array.replicate 256 (Value.slice none 0 0))[i - 2]? := by
      unfold zcR
      rw [Array.getElem?_append_right (by simpa using h)]
      rfl
    rw [e, if_neg (by omega)]
    rw [Array.getElem?_replicate, if_pos (by omega)]
theorem zero_ring : ∃ zc : Array Value, (∀ w, Sem.run Try.prog (zeroValue 76) w = .ok (.agg zc) w) ∧ zc.size = 258 ∧ ∀ i, i < 258 → zc[i]? = some (if i < 2 then .int .i64 0 else .slice none 0 0) :=
  ⟨zcR, zero_run, zcR_size, zcR_get⟩

set_option maxHeartbeats 1000000 in
theorem qnew_yes (a : Int) (w : World) (h0 : 0 ≤ a) (h1 : a ≤ 1099511627776) :
    Calls Try.prog 36 #[.int .i64 a] w fun e w' => e = .returned (.pointer (some ⟨w.heap.size, 0, none⟩)) ∧ Rg w' w.heap.size (fun k => k = w.heap.size) a [] ∧ w'.heap.size = w.heap.size + 1 ∧ Gr w w' := by
  obtain ⟨zc, hz, hs, hv⟩ := zero_ring
  have hne : ¬ zc = #[] := by
    rintro rfl
    cases hs
  have HV := hide hv
  clear hv
  go_enter Try.func36, Try.ntmps36
  go_wp2
  go_ret
  have hr : (w.alloc (.cells (zc.setIfInBounds 0 (.int .i64 a)) 76)).rowIs w.heap.size 76 258 (rv a ((([] : List (Int × Int)).length : Nat) : Int) (fun _ => .slice none 0 0)) := by
    have := World.rowIs_alloc w (zc.setIfInBounds 0 (.int .i64 a)) 76 (rv a ((([] : List (Int × Int)).length : Nat) : Int) (fun _ => .slice none 0 0)) (fun i hi => by
      have hi : i < 258 := by simpa [hs] using hi
      have := HV.out i hi
      rw [Array.getElem?_setIfInBounds]
      unfold rv
      rcases (by omega : i = 0 ∨ i = 1 ∨ 2 ≤ i) with rfl | rfl | h
      · simp [hs]
      · simpa using this
      · rw [if_neg (by omega), this, if_neg (by omega), if_neg (by omega), if_neg (by omega)])
    simpa [hs] using this
  refine ⟨rfl, ⟨h0, Near.nil a, rfl, ?_, fun _ => none, fun _ => .slice none 0 0, hr, ?_, ?_, ?_⟩, ?_, (by repeat (first | exact Gr.refl _ | assumption | exact Dr.gr (by assumption) | refine Gr.alloc ?_ _ | refine Gr.drewN ?_ _ | refine Gr.drew ?_ | refine Gr.trans ?_ (by assumption) | refine Gr.trans ?_ (Dr.gr (by assumption))))⟩
  · intro k hk
    rw [World.size_alloc]
    omega
  · exact fun i _ => .inl ⟨rfl, rfl, rfl⟩
  · intro i b _ e; cases e
  · intro i j b _ _ e; cases e
  · rw [World.size_alloc]
set_option maxHeartbeats 1000000 in
theorem qnew_no (a : Int) (w : World) (h : a < 0 ∨ 1099511627776 < a) :
    Calls Try.prog 36 #[.int .i64 a] w fun e w' => e = .returned (.pointer none) ∧ w' = w := by
  by_cases h0 : a < 0
  · go_enter Try.func36, Try.ntmps36
    go_wp2
    go_ret
    exact ⟨rfl, rfl⟩
  · have h1 : 1099511627776 < a := by omega
    clear h
    go_enter Try.func36, Try.ntmps36
    go_wp2
    go_ret
    exact ⟨rfl, rfl⟩

theorem bucket_any (k : Int) (i : Nat) (w : World) (h0 : 0 ≤ k) (h1 : k ≤ 9223372036854775807) (hi : k % 256 = (i : Int)) :
    Calls Try.prog 59 #[.int .i64 k] w fun e w' => e = .returned (.int .i64 (i : Int)) ∧ w' = w := by
  have H : Hid (k % 256 = (i : Int)) := hide hi
  clear hi
  go_enter Try.func59, Try.ntmps59
  go_wp2
  go_ret
  exact ⟨ret_int H.out, rfl⟩

theorem takes_any {w : World} {p : Nat} {FP : Nat → Prop} {a : Int} {L : List (Int × Int)} (h : Rg w p FP a L) (k : Int) (hk : k ≤ 9223372036854775807) :
    Calls Try.prog 77 #[.pointer (some ⟨p, 0, none⟩), .int .i64 k] w fun e w' => e = .returned (.bool (decide (a ≤ k) && decide (k - a < 256))) ∧ w' = w := by
  obtain ⟨c0, c1, cf⟩ := h.cells
  have ha := h.lo
  clear h
  by_cases hc : a ≤ k
  · have H : Hid (decide (k - a < 256) = (decide (a ≤ k) && decide (k - a < 256))) := hide (by simp [hc])
    go_enter Try.func77, Try.ntmps77
    go_wp2
    go_ret
    exact ⟨ret_bool H.out, rfl⟩
  · have H : Hid (false = (decide (a ≤ k) && decide (k - a < 256))) := hide (by simp [hc])
    go_enter Try.func77, Try.ntmps77
    go_wp2
    go_ret
    exact ⟨ret_bool H.out, rfl⟩

theorem qlen_any {w : World} {p : Nat} {FP : Nat → Prop} {a : Int} {L : List (Int × Int)} (h : Rg w p FP a L) :
    Calls Try.prog 56 #[.pointer (some ⟨p, 0, none⟩)] w fun e w' => e = .returned (.int .i64 (L.length : Int)) ∧ w' = w := by
  obtain ⟨c0, c1, cf⟩ := h.cells
  clear h
  go_enter Try.func56, Try.ntmps56
  go_wp2
  go_ret
  exact ⟨rfl, rfl⟩
theorem qlen_nil (w : World) : Calls Try.prog 56 #[.pointer none] w fun e w' => e = .returned (.int .i64 0) ∧ w' = w := by
  go_enter Try.func56, Try.ntmps56
  go_wp2
  go_ret
  exact ⟨rfl, rfl⟩
end Go.Proofs.Ytigoehoaplndiaa
