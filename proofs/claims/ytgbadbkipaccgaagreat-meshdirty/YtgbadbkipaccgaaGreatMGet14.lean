/- What a mesh answers: New, part, find, dist, Nodes, Dist, Count. No condition. -/
import Derived.Test.YtgbadbkipaccgaaGreatMBase14
import Derived.Test.YtgbadbkipaccgaaGreatBOver11
namespace Go.Proofs.YtgbadbkipaccgaaGreat
open Go.RowKit
set_option maxRecDepth 20000

theorem info_part : (Tryz.prog.info? 69).map (fun i => (i.zero, i.size, i.bytes)) = some (some (.agg #[.int .i64 0, .slice none 0 0, .slice none 0 0]), 3, 56) := by kernel_rfl
theorem make_parts (C : Nat) (hc : C ≤ 4096) (w : World) : (Instr.makeSlice 72 (.int .i64 (C : Int)) (.int .i64 (C : Int))).run Tryz.prog w = .ok (.slice (some ⟨w.heap.size, 0, none⟩) C C) (w.alloc (.cells (madeCells #[.int .i64 0, .slice none 0 0, .slice none 0 0] (C * 3)) 69)) := by
  obtain ⟨i0, hi, hz0, hz1, hz2⟩ := info_parts info_part
  have hr := run_make (P := Tryz.prog) w 72 69 i0 (.agg #[.int .i64 0, .slice none 0 0, .slice none 0 0]) Tryz.underlying72 hi hz0 .i64 .i64 C C (by omega) (by omega) (by rw [hz2]; omega) (by omega)
  simp only [Int.toNat_natCast, hz1] at hr
  exact hr
def pc0 : Pc := ⟨0, none, 0, 0, none, 0, 0⟩
theorem parts_made (w : World) (C : Nat) : (w.alloc (.cells (madeCells #[.int .i64 0, .slice none 0 0, .slice none 0 0] (C * 3)) 69)).rowIs w.heap.size 69 (C * 3) (pcF fun _ => pc0) := by
  have := World.rowIs_alloc w (madeCells #[.int .i64 0, .slice none 0 0, .slice none 0 0] (C * 3)) 69 (pcF fun _ => pc0) (fun i hi => by
    rw [size_madeCells] at hi
    have : i % 3 < 3 := Nat.mod_lt _ (by omega)
    unfold pcF pc0
    simp only [madeCells]
    rcases (by omega : i % 3 = 0 ∨ i % 3 = 1 ∨ i % 3 = 2) with e | e | e <;> simp [hi, e])
  rwa [size_madeCells] at this
theorem nod_wall {W H : Int} {N : Nat} {c : Int} : nodB W H N (fun _ => 255) c = false := by
  unfold nodB opB
  simp
theorem nodes_none (W H : Int) (N : Nat) (s : Int) : nodesL W H N (fun _ => 255) s = [] := by
  unfold nodesL
  exact List.filter_eq_nil_iff.2 fun c _ => by simp [opB]
theorem Ms.born {u : World} {W H : Int} {N gp : Nat} (hm : mayB W H = true) (hN : (N : Int) = W * H) :
    Ms ((u.alloc (.cells (madeCells #[.int .i64 0, .slice none 0 0, .slice none 0 0] (cntS W H * 3)) 69)).alloc (.cells #[.pointer (some ⟨gp, 0, none⟩), .slice (some ⟨u.heap.size, 0, none⟩) (cntS W H) (cntS W H), .int .u64 0] 74)) (u.heap.size + 1) u.heap.size gp (u.heap.size + 2) W H N (fun _ => 255) (fun _ => 0) 0 := by
  have h1 := tri_alloc (u.alloc (.cells (madeCells #[.int .i64 0, .slice none 0 0, .slice none 0 0] (cntS W H * 3)) 69)) (.pointer (some ⟨gp, 0, none⟩)) (.slice (some ⟨u.heap.size, 0, none⟩) (cntS W H) (cntS W H)) (.int .u64 0) 74
  rw [World.size_alloc] at h1
  refine ⟨h1, ⟨fun _ => pc0, row_gr (parts_made u (cntS W H)) ((Gr.refl _).alloc _), fun s hs => ⟨rfl, ?_, ⟨fun _ => 0, .inl rfl, fun i j hi => absurd hi (Nat.not_lt_zero _)⟩, rfl⟩⟩, by simp only [World.size_alloc]; omega, ⟨hm, hN⟩, fun c _ => by omega, fun s _ l _ hn => by rw [nod_wall] at hn; cases hn⟩
  rw [nodes_none]
  exact ints_nil _ _

set_option maxHeartbeats 1000000 in
theorem mnew_any {w : World} {gp c v : Nat} {W H : Int} {N cc : Nat} {f : Nat → Int} {ep : Int} {ver : Nat → Int} (h : Gd w gp c v W H N cc f ep ver) :
    Calls Tryz.prog 28 #[.pointer (some ⟨gp, 0, none⟩)] w fun e w' => (∃ p q, e = .returned (.pointer (some ⟨p, 0, none⟩)) ∧ w.heap.size ≤ p ∧ w.heap.size ≤ q ∧ Ms w' p q gp w'.heap.size W H N (fun _ => 255) (fun _ => 0) 0) ∧ Gr w w' := by
  obtain ⟨hm, hn, b1, b2, b3, b4, b5⟩ := h.bd
  obtain ⟨hC1, hC2, hC3⟩ := cntS_eq hm
  have HG := hide h
  have HN := hide hn
  have hmk := fun u : World => make_parts (cntS W H) hC3 u
  have HSE := hide (fun u => sectors_yes W H u hm)
  rw [hC1] at hmk
  have HC1 := hide hC1
  clear h hn b5
  generalize acrossF W = A at *
  generalize acrossF H = D at *
  have hw1 : IntKind.i64.wrap (A * D) = A * D := wrapI (by omega)
  clear hC1
  go_enter Tryz.func28, Tryz.ntmps28
  go_wp2_with (first | (go_at_call 36; refine (gsize_any HG.out).mono ?_; rintro e w1 ⟨rfl, hg1⟩) | (go_at_call 57; refine (HSE.out _).mono ?_; rintro e w2 ⟨rfl, hd2⟩))
  go_ret
  have hg2 := hg1.trans hd2.gr
  have hs := hg2.size
  refine ⟨⟨w2.heap.size + 1, w2.heap.size, rfl, by omega, by omega, ?_⟩, (hg2.alloc _).alloc _⟩
  have := Ms.born (u := w2) (gp := gp) hm HN.out
  simpa only [World.size_alloc] using this

theorem part_yes {w : World} {p q gp B : Nat} {W H : Int} {N : Nat} {S mv : Nat → Int} {cnt : Int} (h : Ms w p q gp B W H N S mv cnt) {s : Nat} (hs : s < cntS W H) :
    Calls Tryz.prog 32 #[.pointer (some ⟨p, 0, none⟩), .int .i64 s] w fun e w' => e = .returned (.pointer (some ⟨q, s * 3, none⟩)) ∧ Dr w w' := by
  obtain ⟨c0, c1, c2⟩ := h.cells
  have hb := h.bd.2.1
  have h1 : (s : Int) < (cntS W H : Int) := by omega
  have h0 : (0 : Int) ≤ (s : Int) := by omega
  clear h
  go_enter Tryz.func32, Tryz.ntmps32
  go_wp2
  go_ret
  exact ⟨rfl, by repeat (first | exact Dr.refl _ | assumption | refine Dr.add ?_ | refine Dr.trans ?_ (by assumption))⟩
theorem part_no {w : World} {p q gp B : Nat} {W H : Int} {N : Nat} {S mv : Nat → Int} {cnt : Int} (h : Ms w p q gp B W H N S mv cnt) {x : Int} (hx : x < 0 ∨ (cntS W H : Int) ≤ x) :
    Calls Tryz.prog 32 #[.pointer (some ⟨p, 0, none⟩), .int .i64 x] w fun e w' => e = .returned (.pointer none) ∧ Dr w w' := by
  obtain ⟨c0, c1, c2⟩ := h.cells
  have hb := h.bd.2.1
  clear h
  by_cases h0 : x < 0
  · go_enter Tryz.func32, Tryz.ntmps32
    go_wp2
    go_ret
    exact ⟨rfl, by repeat (first | exact Dr.refl _ | assumption | refine Dr.add ?_ | refine Dr.trans ?_ (by assumption))⟩
  · have h1 : (cntS W H : Int) ≤ x := by omega
    have h2 : 0 ≤ x := by omega
    clear hx
    go_enter Tryz.func32, Tryz.ntmps32
    go_wp2
    go_ret
    exact ⟨rfl, by repeat (first | exact Dr.refl _ | assumption | refine Dr.add ?_ | refine Dr.trans ?_ (by assumption))⟩

/-- where a node is found -/
def fdP (W H : Int) (N : Nat) (S : Nat → Int) (q : Nat) (x : Int) : Option Addr := if nodB W H N S x = true then some ⟨q, (sectorF W x).toNat * 3, none⟩ else none
def fdK (W H : Int) (N : Nat) (S : Nat → Int) (x : Int) : Nat := if nodB W H N S x = true then (nodesL W H N S (sectorF W x)).idxOf x.toNat else 0
theorem fd_at {W H : Int} {N : Nat} {S : Nat → Int} (hm : mayB W H = true) (hN : (N : Int) = W * H) {x : Int} (h : nodB W H N S x = true) :
    ∃ s : Nat, s < cntS W H ∧ sectorF W x = s ∧ fdK W H N S x < (nodesL W H N S s).length ∧ x = ndI (nodesL W H N S s) (fdK W H N S x) := by
  obtain ⟨k, s, l, rfl, b1, b2, b3, b4, b5, b6, b7, b8⟩ := node_at hm hN h
  have hmem := (nodes_mem (N := N) (S := S) (sec_of b2)).2 ⟨h, b4⟩
  have hlt := List.idxOf_lt_length_iff.2 hmem
  refine ⟨s, b2, b4, ?_, ?_⟩
  · unfold fdK
    rw [if_pos h, b4, Int.toNat_natCast]
    exact hlt
  · unfold fdK ndI
    rw [if_pos h, b4, Int.toNat_natCast, List.getD_eq_getElem?_getD, List.getElem?_eq_getElem hlt, List.getElem_idxOf hlt]
    rfl

set_option maxHeartbeats 2000000 in
theorem mfind_any {w : World} {p q gp B : Nat} {W H : Int} {N : Nat} {S mv : Nat → Int} {cnt : Int} (h : Ms w p q gp B W H N S mv cnt) {c v cc : Nat} {f : Nat → Int} {ep : Int} {ver : Nat → Int} (g : Gd w gp c v W H N cc f ep ver) (x : Int) :
    Calls Tryz.prog 34 #[.pointer (some ⟨p, 0, none⟩), .int .i64 x] w fun e w' => e = .returned (.tuple #[.pointer (fdP W H N S q x), .int .i64 (fdK W H N S x : Nat)]) ∧ Gr w w' := by
  obtain ⟨c0, c1, c2⟩ := h.cells
  have HM := hide h
  have HG := hide g
  obtain ⟨hm, hN⟩ := h.may
  have bd := h.bd
  clear h g
  cases hc : isCellB W H x
  · have hn : nodB W H N S x = false := by unfold nodB; rw [brdB_no hc, Bool.and_false]
    have e1 : fdP W H N S q x = none := by unfold fdP; rw [hn]; rfl
    have e2 : fdK W H N S x = 0 := by unfold fdK; rw [hn]; rfl
    rw [e1, e2]
    have HS := hide (fun u => sector_any W H x u)
    rw [secF_no hc] at HS
    clear e1 e2 hn hc hN
    go_enter Tryz.func34, Tryz.ntmps34
    go_wp2_with (first | (go_at_call 36; refine (gsize_any HG.out).mono ?_; rintro e w1 ⟨rfl, hg1⟩) | (go_at_call 24; refine (HS.out _).mono ?_; rintro e w2 ⟨rfl, hd2⟩) | (go_at_call 32; refine (part_no (HM.out.gr (hg1.trans hd2.gr)) (.inl (by omega))).mono ?_; rintro e w3 ⟨rfl, hd3⟩))
    go_ret2
    exact ⟨rfl, (hg1.trans hd2.gr).trans hd3.gr⟩
  · have hx := (isCellB_iff _ _ _).1 hc
    obtain ⟨s, l, hs, hl, es, el, egc⟩ := cell_at hm hN (c := x.toNat) (by omega)
    rw [Int.toNat_of_nonneg hx.2.1] at es el
    have HS := hide (fun u => sector_any W H x u)
    rw [secF_yes hc, es] at HS
    obtain ⟨y, hp, d0, d1, d2⟩ := HM.out.at hs
    have hrise := (nodesL_rise (N := N) (f := S) (sec_of hs)).1
    have hlen := hp.nn
    have hle : y.nn ≤ 1000000 := by
      have := nodes_sixty (N := N) (f := S) (sec_of hs)
      omega
    have HF := hide (fun u (k : Gr w u) => ifind_any (hp.gr k).nodes hrise hle x)
    have hmem : ∀ z : Nat, z ∈ nodesL W H N S s → (z : Int) = x → nodB W H N S x = true := fun z hz e => by rw [← e]; exact ((nodes_mem (sec_of hs)).1 hz).1
    cases hn : nodB W H N S x
    · have e1 : fdP W H N S q x = none := by unfold fdP; rw [hn]; rfl
      have e2 : fdK W H N S x = 0 := by unfold fdK; rw [hn]; rfl
      rw [e1, e2]
      have hno := has_no (L := nodesL W H N S s) (x := x) (fun z hz e => by rw [hmem z hz e] at hn; cases hn)
      rw [hno] at HF
      generalize List.countP _ _ = k at HF
      clear e1 e2 hn hc hN hno hx hl es el egc hmem
      go_enter Tryz.func34, Tryz.ntmps34
      go_wp2_with (first | (go_at_call 36; refine (gsize_any HG.out).mono ?_; rintro e w1 ⟨rfl, hg1⟩) | (go_at_call 24; refine (HS.out _).mono ?_; rintro e w2 ⟨rfl, hd2⟩) | (go_at_call 32; refine (part_yes (HM.out.gr (hg1.trans hd2.gr)) hs).mono ?_; rintro e w3 ⟨rfl, hd3⟩; have hg3 := (hg1.trans hd2.gr).trans hd3.gr; replace d1 := cell_gr d1 hg3) | (go_at_call 61; refine (HF.out _ hg3).mono ?_; rintro e w4 ⟨rfl, hd4⟩))
      go_ret2
      exact ⟨rfl, hg3.trans hd4.gr⟩
    · obtain ⟨s', hs', es', hk, hxk⟩ := fd_at hm hN hn
      obtain rfl : s' = s := by omega
      have e1 : fdP W H N S q x = some ⟨q, s' * 3, none⟩ := by unfold fdP; rw [if_pos hn, es, Int.toNat_natCast]
      rw [e1]
      have h1 := has_at hk
      have h2 := count_at hrise hk
      unfold ndI at hxk
      rw [← hxk] at h1 h2
      rw [h1, h2] at HF
      generalize fdK W H N S x = k at *
      clear e1 hn hc hN hx hl es el egc hmem h1 h2 hxk es'
      go_enter Tryz.func34, Tryz.ntmps34
      go_wp2_with (first | (go_at_call 36; refine (gsize_any HG.out).mono ?_; rintro e w1 ⟨rfl, hg1⟩) | (go_at_call 24; refine (HS.out _).mono ?_; rintro e w2 ⟨rfl, hd2⟩) | (go_at_call 32; refine (part_yes (HM.out.gr (hg1.trans hd2.gr)) hs).mono ?_; rintro e w3 ⟨rfl, hd3⟩; have hg3 := (hg1.trans hd2.gr).trans hd3.gr; replace d1 := cell_gr d1 hg3) | (go_at_call 61; refine (HF.out _ hg3).mono ?_; rintro e w4 ⟨rfl, hd4⟩))
      go_ret2
      exact ⟨rfl, hg3.trans hd4.gr⟩
end Go.Proofs.YtgbadbkipaccgaaGreat
