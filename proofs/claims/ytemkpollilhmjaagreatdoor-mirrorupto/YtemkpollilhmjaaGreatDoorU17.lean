/- WE, WF, WG, WH, WM, WN, HA, HJ, HC: in one text. -/
import Derived.Test.YtemkpollilhmjaaGreatDoorU16
import Derived.Deep.RegionHeld3
import Derived.Defers
import Derived.RangeFuncBox
import Derived.Recover
import Derived.Test.YtemkpollilhmjaaGreatDoorU07
import Derived.Test.YtemkpollilhmjaaGreatDoorU08
import Derived.Laws.ResultCell
/- Two rows of entries, equal or not: the program's comparison and the document's. -/
namespace Go.Proofs.YtemkpollilhmjaaGreatDoor
open Go.RowKit
set_option linter.unusedVariables false
set_option linter.unusedSimpArgs false

set_option maxHeartbeats 2000000 in
set_option maxRecDepth 100000 in
theorem neq75 (op pp : ByteArray) (od pd : Bool) (oi os om pi ps pm : Int) (h : ¬ (op = pp ∧ od = pd ∧ oi = pi ∧ os = ps ∧ om = pm)) (u : World) : (binOp .neq 54 (.agg #[.string op, .bool od, .int .i64 oi, .int .i64 os, .int .i64 om]) (.agg #[.string pp, .bool pd, .int .i64 pi, .int .i64 ps, .int .i64 pm])).run Tryz.prog u = .ok (.bool true) u := by
  have hp : op.toList = pp.toList → op = pp := fun e => by rw [ba_toList, ba_toList] at e; exact ByteArray.ext (Array.toList_inj.1 e)
  simp only [go_sem]
  simp [go_sem]
  exact fun e0 e1 e2 e3 e4 => h ⟨hp e0, e1, e2, e3, e4⟩
set_option maxHeartbeats 2000000 in
set_option maxRecDepth 100000 in
theorem vEq_row (b1 o1 c1 b2 o2 c2 : Nat) (M N : List EntD) (w : World) (hl : M.length ≤ 2000000) (hn : N.length = M.length) (h1 : EntsAt w b1 o1 M) (h2 : EntsAt w b2 o2 N) :
    Calls Tryz.prog 55 #[.slice (some ⟨b1, o1, none⟩) M.length c1, .slice (some ⟨b2, o2, none⟩) M.length c2] w fun e w' => ∃ b : Bool, e = .returned (.bool b) ∧ (b = true ↔ M = N) ∧ ∃ n, w' = w.drewN n := by
  have hne : ((M.length : Int) != (M.length : Int)) = false := by simp
  go_enter Tryz.func55, Tryz.ntmps55
  go_wp2
  go_loopw [13] (fun i wr => ∃ k n : Nat, k ≤ M.length ∧ i = .int .i64 k ∧ wr = w.drewN n ∧ ∀ j, j < k → M[j]? = N[j]?) (fun i _ => M.length - (intOf i).toNat)
  case atStart => exact ⟨0, 0, Nat.zero_le _, rfl, rfl, fun j hj => by omega⟩
  case round =>
    obtain ⟨k, n, hk, rfl, rfl, hsame⟩ := hrel
    by_cases hlt : k < M.length
    · have a := h1 k hlt
      have b := h2 k (by omega)
      have hlt' : (k : Int) < (M.length : Int) := by omega
      have HK := List.getElem?_eq_getElem hlt
      have HK2 := List.getElem?_eq_getElem (l := N) (i := k) (by omega)
      generalize M[k] = o at *
      generalize N[k]'(by omega) = p at *
      obtain ⟨op, od, oi, os, om⟩ := o
      obtain ⟨pp, pd, pi, ps, pm⟩ := p
      have a0 := a 0 _ rfl
      have a1 := a 1 _ rfl
      have a2 := a 2 _ rfl
      have a3 := a 3 _ rfl
      have a4 := a 4 _ rfl
      have b0 := b 0 _ rfl
      have b1 := b 1 _ rfl
      have b2 := b 2 _ rfl
      have b3 := b 3 _ rfl
      have b4 := b 4 _ rfl
      simp only [Nat.add_zero] at a0 b0
      clear a b
      by_cases heq : op = pp ∧ od = pd ∧ oi = pi ∧ os = ps ∧ om = pm
      · obtain ⟨rfl, rfl, rfl, rfl, rfl⟩ := heq
        go_wp2
        go_quiet (fail)
        go_wp2
        refine ⟨⟨k + 1, _, by omega, by go_num, rfl, fun j hj => ?_⟩, by simp [intOf]; omega⟩
        by_cases hjk : j < k
        · exact hsame j hjk
        · obtain rfl : j = k := by omega
          rw [HK, HK2]
      · have hnq := neq75 op pp od pd oi os om pi ps pm heq
        go_wp2
        go_quiet (fail)
        go_wp2
        go_ret
        refine ⟨false, rfl, ⟨fun h => (by cases h), fun h => absurd ?_ heq⟩, _, World.drewN_drewN ..⟩
        rw [h, HK2] at HK
        simp only [Option.some.injEq, EntD.mk.injEq] at HK
        exact ⟨HK.1.symm, HK.2.1.symm, HK.2.2.1.symm, HK.2.2.2.1.symm, HK.2.2.2.2.symm⟩
    · go_wp2
      go_ret
      exact ⟨true, rfl, ⟨fun _ => List.ext_getElem? (fun j => by by_cases hj : j < M.length; exact hsame j (by omega); rw [List.getElem?_eq_none (by omega), List.getElem?_eq_none (by omega)]), fun _ => rfl⟩, n, rfl⟩

set_option maxHeartbeats 1000000 in
theorem vEq_len (a1 a2 : Option Addr) (n1 n2 c1 c2 : Nat) (h : n1 ≠ n2) (w : World) :
    Calls Tryz.prog 55 #[.slice a1 n1 c1, .slice a2 n2 c2] w fun e w' => e = .returned (.bool false) ∧ w' = w := by
  have hne : ((n1 : Int) != (n2 : Int)) = true := by simp; omega
  go_enter Tryz.func55, Tryz.ntmps55
  go_wp2
  go_ret
  exact ⟨rfl, rfl⟩
set_option maxHeartbeats 1000000 in
theorem vEq_0 (a1 a2 : Option Addr) (c1 c2 : Nat) (w : World) :
    Calls Tryz.prog 55 #[.slice a1 0 c1, .slice a2 0 c2] w fun e w' => e = .returned (.bool true) ∧ w' = w := by
  go_enter Tryz.func55, Tryz.ntmps55
  go_wp2
  refine wp_loop_rounds 1 ?_
  rw [rounds_succ]
  go_wp2
  go_ret
  exact ⟨rfl, rfl⟩
theorem vEq {w : World} {v1 v2 : Value} {M N : List EntD} (h1 : RowAt w v1 M) (h2 : RowAt w v2 N) (hl : M.length ≤ 2000000) :
    Calls Tryz.prog 55 #[v1, v2] w fun e w' => ∃ b : Bool, e = .returned (.bool b) ∧ (b = true ↔ M = N) ∧ ∃ n, w' = w.drewN n := by
  by_cases hn : M.length = N.length
  · by_cases h0 : M.length = 0
    · obtain ⟨a1, c1, rfl⟩ := h1.val
      obtain ⟨a2, c2, rfl⟩ := h2.val
      have e1 : M = [] := List.length_eq_zero_iff.1 h0
      have e2 : N = [] := List.length_eq_zero_iff.1 (by omega)
      subst e1
      subst e2
      exact (vEq_0 a1 a2 c1 c2 w).mono (by rintro e w' ⟨rfl, rfl⟩; exact ⟨true, rfl, by simp, 0, rfl⟩)
    · cases h1 with
      | nil => exact absurd rfl h0
      | row b1 o1 c1 l hb1 hc1 hm1 e1 =>
        cases h2 with
        | nil => exact absurd hn h0
        | row b2 o2 c2 l hb2 hc2 hm2 e2 =>
          rw [← hn]
          exact vEq_row b1 o1 c1 b2 o2 c2 M N w hl hn.symm e1 e2
  · obtain ⟨a1, c1, rfl⟩ := h1.val
    obtain ⟨a2, c2, rfl⟩ := h2.val
    exact (vEq_len a1 a2 _ _ c1 c2 hn w).mono (by rintro e w' ⟨rfl, rfl⟩; exact ⟨false, rfl, ⟨fun h => (by cases h), fun h => absurd (congrArg List.length h) hn⟩, 0, rfl⟩)

set_option maxHeartbeats 2000000 in
set_option maxRecDepth 100000 in
theorem rEq_row (b1 o1 c1 b2 o2 c2 : Nat) (M N : List EntD) (w : World) (hl : M.length ≤ 2000000) (hn : N.length = M.length) (h1 : EntsAt w b1 o1 M) (h2 : EntsAt w b2 o2 N) :
    Calls Tryz.prog 12 #[.slice (some ⟨b1, o1, none⟩) M.length c1, .slice (some ⟨b2, o2, none⟩) M.length c2] w fun e w' => ∃ b : Bool, e = .returned (.bool b) ∧ (b = true ↔ M = N) ∧ ∃ n, w' = w.drewN n := by
  have hne : ((M.length : Int) != (M.length : Int)) = false := by simp
  go_enter Tryz.func12, Tryz.ntmps12
  go_wp2
  go_loopw [5] (fun i wr => ∃ k n : Nat, k ≤ M.length ∧ i = .int .i64 k ∧ wr = w.drewN n ∧ ∀ j, j < k → M[j]? = N[j]?) (fun i _ => M.length - (intOf i).toNat)
  case atStart => exact ⟨0, 0, Nat.zero_le _, rfl, rfl, fun j hj => by omega⟩
  case round =>
    obtain ⟨k, n, hk, rfl, rfl, hsame⟩ := hrel
    by_cases hlt : k < M.length
    · have a := h1 k hlt
      have b := h2 k (by omega)
      have hlt' : (k : Int) < (M.length : Int) := by omega
      have HK := List.getElem?_eq_getElem hlt
      have HK2 := List.getElem?_eq_getElem (l := N) (i := k) (by omega)
      generalize M[k] = o at *
      generalize N[k]'(by omega) = p at *
      obtain ⟨op, od, oi, os, om⟩ := o
      obtain ⟨pp, pd, pi, ps, pm⟩ := p
      have a0 := a 0 _ rfl
      have a1 := a 1 _ rfl
      have a2 := a 2 _ rfl
      have a3 := a 3 _ rfl
      have a4 := a 4 _ rfl
      have b0 := b 0 _ rfl
      have b1 := b 1 _ rfl
      have b2 := b 2 _ rfl
      have b3 := b 3 _ rfl
      have b4 := b 4 _ rfl
      simp only [Nat.add_zero] at a0 b0
      clear a b
      by_cases heq : op = pp ∧ od = pd ∧ oi = pi ∧ os = ps ∧ om = pm
      · obtain ⟨rfl, rfl, rfl, rfl, rfl⟩ := heq
        go_wp2
        go_quiet (fail)
        go_wp2
        refine ⟨⟨k + 1, _, by omega, by go_num, rfl, fun j hj => ?_⟩, by simp [intOf]; omega⟩
        by_cases hjk : j < k
        · exact hsame j hjk
        · obtain rfl : j = k := by omega
          rw [HK, HK2]
      · have hnq := neq75 op pp od pd oi os om pi ps pm heq
        go_wp2
        go_quiet (fail)
        go_wp2
        go_ret
        refine ⟨false, rfl, ⟨fun h => (by cases h), fun h => absurd ?_ heq⟩, _, World.drewN_drewN ..⟩
        rw [h, HK2] at HK
        simp only [Option.some.injEq, EntD.mk.injEq] at HK
        exact ⟨HK.1.symm, HK.2.1.symm, HK.2.2.1.symm, HK.2.2.2.1.symm, HK.2.2.2.2.symm⟩
    · go_wp2
      go_ret
      exact ⟨true, rfl, ⟨fun _ => List.ext_getElem? (fun j => by by_cases hj : j < M.length; exact hsame j (by omega); rw [List.getElem?_eq_none (by omega), List.getElem?_eq_none (by omega)]), fun _ => rfl⟩, n, rfl⟩

set_option maxHeartbeats 1000000 in
theorem rEq_len (a1 a2 : Option Addr) (n1 n2 c1 c2 : Nat) (h : n1 ≠ n2) (w : World) :
    Calls Tryz.prog 12 #[.slice a1 n1 c1, .slice a2 n2 c2] w fun e w' => e = .returned (.bool false) ∧ w' = w := by
  have hne : ((n1 : Int) != (n2 : Int)) = true := by simp; omega
  go_enter Tryz.func12, Tryz.ntmps12
  go_wp2
  go_ret
  exact ⟨rfl, rfl⟩
set_option maxHeartbeats 1000000 in
theorem rEq_0 (a1 a2 : Option Addr) (c1 c2 : Nat) (w : World) :
    Calls Tryz.prog 12 #[.slice a1 0 c1, .slice a2 0 c2] w fun e w' => e = .returned (.bool true) ∧ w' = w := by
  go_enter Tryz.func12, Tryz.ntmps12
  go_wp2
  refine wp_loop_rounds 1 ?_
  rw [rounds_succ]
  go_wp2
  go_ret
  exact ⟨rfl, rfl⟩
theorem rEq {w : World} {v1 v2 : Value} {M N : List EntD} (h1 : RowAt w v1 M) (h2 : RowAt w v2 N) (hl : M.length ≤ 2000000) :
    Calls Tryz.prog 12 #[v1, v2] w fun e w' => ∃ b : Bool, e = .returned (.bool b) ∧ (b = true ↔ M = N) ∧ ∃ n, w' = w.drewN n := by
  by_cases hn : M.length = N.length
  · by_cases h0 : M.length = 0
    · obtain ⟨a1, c1, rfl⟩ := h1.val
      obtain ⟨a2, c2, rfl⟩ := h2.val
      have e1 : M = [] := List.length_eq_zero_iff.1 h0
      have e2 : N = [] := List.length_eq_zero_iff.1 (by omega)
      subst e1
      subst e2
      exact (rEq_0 a1 a2 c1 c2 w).mono (by rintro e w' ⟨rfl, rfl⟩; exact ⟨true, rfl, by simp, 0, rfl⟩)
    · cases h1 with
      | nil => exact absurd rfl h0
      | row b1 o1 c1 l hb1 hc1 hm1 e1 =>
        cases h2 with
        | nil => exact absurd hn h0
        | row b2 o2 c2 l hb2 hc2 hm2 e2 =>
          rw [← hn]
          exact rEq_row b1 o1 c1 b2 o2 c2 M N w hl hn.symm e1 e2
  · obtain ⟨a1, c1, rfl⟩ := h1.val
    obtain ⟨a2, c2, rfl⟩ := h2.val
    exact (rEq_len a1 a2 _ _ c1 c2 hn w).mono (by rintro e w' ⟨rfl, rfl⟩; exact ⟨false, rfl, ⟨fun h => (by cases h), fun h => absurd (congrArg List.length h) hn⟩, 0, rfl⟩)
end Go.Proofs.YtemkpollilhmjaaGreatDoor

/- How far the journal tells; a step that does an operation; what stays where a volume changes. -/
namespace Go.Proofs.YtemkpollilhmjaaGreatDoor
open Go.RowKit
set_option linter.unusedVariables false
set_option linter.unusedSimpArgs false

set_option maxHeartbeats 4000000 in
set_option maxRecDepth 100000 in
theorem vdone_of {w : World} {vb g cap n m : Nat} {a0 : Option Addr} {l0 k0 : Nat} {s : ByteArray} {vs : List Value} {V : List EntD} {W : Nat → List EntD} (c0 : w.cell? ⟨vb, 0, none⟩ = some (.slice a0 l0 k0)) (c3 : w.cell? ⟨vb, 3, none⟩ = some (.string s)) (hlt0 : vb < w.heap.size) (hlt1 : g < w.heap.size) (hm : m ≤ n) (hn : n ≤ 2000000) (hlen : vs.length = n + 1) (hcell : ∀ (j : Nat) (h : j < vs.length), w.cell? ⟨g, j, none⟩ = some vs[j]) (hvs : ∀ (j : Nat) (h : j < vs.length), ∃ a k c, vs[j] = .slice a k c)
    (HM : Calls Tryz.prog 54 #[.string s, .int .i64 n] w fun e w' => e = .returned (.int .i64 m) ∧ w' = w)
    (HE : ∀ (j : Nat) (h : j < vs.length) (u : World), Below w.heap.size w u → Calls Tryz.prog 55 #[.slice a0 l0 k0, vs[j]] u fun e w' => ∃ b : Bool, e = .returned (.bool b) ∧ (b = true ↔ V = W j) ∧ Below u.heap.size u w') :
    Calls Tryz.prog 41 #[.pointer (some ⟨vb, 0, none⟩), .slice (some ⟨g, 0, none⟩) (n + 1) cap] w fun r w' => ∃ d : Int, r = .returned (.int .i64 d) ∧ DoneAt V W m d ∧ Below w.heap.size w w' := by
  have x0 := hcell m (by omega)
  have E0 := HE m (by omega)
  obtain ⟨am, lm, km, hvm⟩ := hvs m (by omega)
  rw [hvm] at x0 E0
  clear hvm
  by_cases hm0 : m = 0
  · subst hm0
    clear hcell hvs HE
    go_enter Tryz.func41, Tryz.ntmps41
    go_wp2_with (go_at_call 54; refine HM.mono ?_; rintro e w' ⟨rfl, hw⟩; rw [hw]; clear hw w')
    refine wp_loop_rounds 2 ?_
    rw [rounds_succ]
    go_wp2
    go_region_held3 (fun u => u.cell? ⟨vb, 0, none⟩ = some (.slice a0 l0 k0) ∧ u.cell? ⟨g, 0, none⟩ = some (.slice am lm km)) (go_keep) (first | (go_at_call 55; refine (E0 w.drew ⟨rfl, rfl, rfl, Nat.le_refl _, fun _ _ => rfl⟩).mono ?_; rintro e w1 ⟨b, rfl, hb, hb1⟩; have y0 := cell_kept hb1 hlt0 c0; have y1 := cell_kept hb1 hlt1 x0))
    have hb2 : Below w.heap.size w w1 := ⟨hb1.os, hb1.tape, hb1.output, hb1.size, hb1.block⟩
    cases b
    · go_wp2
      rw [rounds_succ]
      go_wp2
      go_ret
      exact ⟨-1, rfl, .inr (.inr ⟨fun h => by simp [h] at hb, fun h => by omega, rfl⟩), hb2⟩
    · go_wp2
      go_ret
      exact ⟨0, rfl, .inl ⟨by simpa using hb, rfl⟩, hb2⟩
  · have x1 := hcell (m - 1) (by omega)
    have E1 := HE (m - 1) (by omega)
    obtain ⟨an, ln, kn, hvn⟩ := hvs (m - 1) (by omega)
    rw [hvn] at x1 E1
    clear hvn hcell hvs HE
    obtain ⟨p, hp⟩ : ∃ p, m = p + 1 := ⟨m - 1, by omega⟩
    have hp1 : m - 1 = p := by omega
    rw [hp1] at x1 E1
    have em : (m : Int) - 1 = (p : Int) := by omega
    have hmx : (if 0 < p then (p : Int) else 0) = p := by split <;> omega
    have hm1 : (0 : Int) ≤ (m : Int) := by omega
    have hm2 : (m : Int) < (n : Int) + 1 := by omega
    have hm3 : (p : Int) ≤ (m : Int) := by omega
    have hm4 : (p : Int) < (n : Int) + 1 := by omega
    have hm5 : (0 : Int) ≤ (p : Int) := by omega
    have hm6 : ¬ ((p : Int) ≤ (p : Int) - 1) := by omega
    have HP := hidD (And.intro hp hp1)
    clear hm0 hp hp1
    go_enter Tryz.func41, Tryz.ntmps41
    go_wp2_with (go_at_call 54; refine HM.mono ?_; rintro e w' ⟨rfl, hw⟩; rw [hw]; clear hw w')
    refine wp_loop_rounds 3 ?_
    rw [rounds_succ]
    go_wp2
    go_region_held3 (fun u => u.cell? ⟨vb, 0, none⟩ = some (.slice a0 l0 k0) ∧ u.cell? ⟨g, m, none⟩ = some (.slice am lm km)) (go_keep) (first | (go_at_call 55; refine (E0 w.drew ⟨rfl, rfl, rfl, Nat.le_refl _, fun _ _ => rfl⟩).mono ?_; rintro e w1 ⟨b, rfl, hb, hb1⟩; have y0 := cell_kept hb1 hlt0 c0; have y1 := cell_kept hb1 hlt1 x0))
    have hb2 : Below w.heap.size w w1 := ⟨hb1.os, hb1.tape, hb1.output, hb1.size, hb1.block⟩
    cases b
    · have z1 := cell_kept hb1 hlt1 x1
      have hne : V ≠ W m := fun h => by simp [h] at hb
      have HNE := hidD hne
      clear hb hne
      go_wp2
      rw [rounds_succ]
      go_wp2
      go_region_held3 (fun u => u.cell? ⟨vb, 0, none⟩ = some (.slice a0 l0 k0) ∧ u.cell? ⟨g, p, none⟩ = some (.slice an ln kn)) (go_keep) (first | (go_at_call 55; refine (E1 w1.drew ⟨hb2.os, hb2.tape, hb2.output, hb2.size, hb2.block⟩).mono ?_; rintro e w2 ⟨b, rfl, hc, hb3⟩; have y2 := cell_kept hb3 (Nat.lt_of_lt_of_le hlt0 hb2.size) y0; have y3 := cell_kept hb3 (Nat.lt_of_lt_of_le hlt1 hb2.size) z1))
      have hb4 : Below w.heap.size w w2 := hb2.trans (Below.mono ⟨hb3.os, hb3.tape, hb3.output, hb3.size, hb3.block⟩ hb2.size)
      cases b
      · go_wp2
        rw [rounds_succ]
        go_wp2
        go_ret
        exact ⟨-1, rfl, .inr (.inr ⟨HNE.out, fun _ h => by rw [HP.out.2] at h; simp [← h] at hc, rfl⟩), hb4⟩
      · go_wp2
        go_ret
        exact ⟨p, rfl,   .inr (.inl ⟨HNE.out, by have := HP.out.1; omega, by rw [HP.out.2]; simpa using hc, em.symm⟩), hb4⟩
    · go_wp2
      go_ret
      exact ⟨m, rfl, .inl ⟨by simpa using hb, rfl⟩, hb2⟩

theorem vdone {T : TypeId} {w : World} {vb g cap n m : Nat} {v : Value} {fold : Bool} {space : Int} {vs : List Value} {V : List EntD} {W : Nat → List EntD} (hk : Vk T w vb v fold space [.string (marksB m)]) (hr : RowAt w v V) (hV : V.length ≤ 2000000) (hm : m ≤ n) (hn : n ≤ 2000000) (hlen : vs.length = n + 1) (hlt1 : g < w.heap.size) (hcell : ∀ (j : Nat) (h : j < vs.length), w.cell? ⟨g, j, none⟩ = some vs[j]) (rows : ∀ (j : Nat) (h : j < vs.length), RowAt w vs[j] (W j)) :
    Calls Tryz.prog 41 #[.pointer (some ⟨vb, 0, none⟩), .slice (some ⟨g, 0, none⟩) (n + 1) cap] w fun r w' => ∃ d : Int, r = .returned (.int .i64 d) ∧ DoneAt V W m d ∧ Below w.heap.size w w' := by
  have c0 := hk.vol.c0
  have c3 := hk.c3
  obtain ⟨a0, k0, rfl⟩ := hr.val
  exact vdone_of c0 c3 hk.lt hlt1 hm hn hlen hcell (fun j h => by obtain ⟨a, c, e⟩ := (rows j h).val; exact ⟨_, _, _, e⟩) (marks_any m n w hm hn) (fun j h u hu => (vEq (hr.below hu (Nat.le_refl _)) ((rows j h).below hu (Nat.le_refl _)) hV).mono (by rintro e w' ⟨b, rfl, hb, q, rfl⟩; exact ⟨b, rfl, hb, below_drewE _ _⟩))

set_option maxHeartbeats 4000000 in
set_option maxRecDepth 100000 in
/-- step, where the mark is there. -/
theorem step_do {T : TypeId} {u : World} {vb : Nat} {v : Value} {V : List EntD} {fold : Bool} {space : Int} {m : Nat} (hk : Vk T u vb v fold space [.string (marksB m)]) (hr : RowAt u v V) (K : VolOk fold V) (hg : Gd u) (o : OpD) (hok : okOp o = true) (hsm : o.small) (h0 : 0 ≤ space) (h1 : space ≤ 9223372036854775807) (n : Nat) (hn : n < m) (hm : m ≤ 2000000) :
    Calls Tryz.prog 42 #[.pointer (some ⟨vb, 0, none⟩), .int .i64 n, .agg #[.int .i64 o.kind, .string o.path, .string o.dest, .int .i64 o.id, .int .i64 o.size, .int .i64 o.mode]] u fun r w' => DoA T u vb fold space [.string (marksB m)] (doL fold space V o) r w' := by
  have HD := hidD (fun (w1 : World) (hb : Below u.heap.size u w1) => vDoT_good (hk.below hb hk.lt) (hr.below hb (Nat.le_refl _)) K (hg.below hb) o hok hsm h0 h1)
  have hlt := hk.lt
  obtain ⟨kind, path, dest, id, size, mode⟩ := o
  dsimp only at *
  have ST : Hid (Ob u ⟨kind, path, dest, id, size, mode⟩ (u.alloc (.cells #[.int .i64 kind, .string path, .string dest, .int .i64 id, .int .i64 size, .int .i64 mode] 82))) := Ob.start u _
  have HK := hidD (hk.below ST.out.bel hlt)
  have c0 := HK.out.vol.c0
  have c3 := HK.out.c3
  have hsz := marksB_size m
  clear hk hr K hg HK
  generalize doL fold space V ⟨kind, path, dest, id, size, mode⟩ = X at *
  generalize marksB m = s at *
  go_enter Tryz.func42, Tryz.ntmps42
  go_wp2_with (go_at_call 48; refine (HD.out _ ST.out.bel).mono ?_; intro r w1 hd; obtain ⟨k, hr⟩ := hd.retD; subst hr)
  go_ret
  exact DoA.from_below ST.out.bel hd

theorem cell_lt {w : World} {b o : Nat} {v : Value} (h : w.cell? ⟨b, o, none⟩ = some v) : b < w.heap.size := by
  by_cases hb : b < w.heap.size
  · exact hb
  · simp [World.cell?, Array.getElem?_eq_none (show w.heap.size ≤ b by omega)] at h
theorem done_neg {V : List EntD} {W : Nat → List EntD} {m : Nat} {d0 d : Int} (h0 : DoneAt V W m d0) (hn : d0 = -1) (h : DoneAt V W m d) : d = -1 := by
  rcases h0 with ⟨_, e⟩ | ⟨_, p, _, e⟩ | ⟨n1, n2, _⟩
  · omega
  · omega
  · rcases h with ⟨e, _⟩ | ⟨_, p, e, _⟩ | ⟨_, _, e⟩
    · exact absurd e n1
    · exact absurd e (n2 p)
    · exact e
theorem RowAt.grown {T : TypeId} {w u : World} {vb : Nat} {v v' : Value} {L : List EntD} {fold : Bool} {space : Int} {rest : List Value} (h : RowAt w v' L) (k : Vk T w vb v fold space rest) (hr : rest.length ≤ 1) (hg : w.grownBy u (some vb)) : RowAt u v' L := by
  cases h with
  | nil => exact .nil
  | row b off cap l hlt hc hm h =>
    refine .row b off cap L (Nat.lt_of_lt_of_le hlt hg.size) hc hm ?_
    by_cases hb : b = vb
    · subst hb
      intro i hi
      exfalso
      have hc4 := h i hi 4 _ rfl
      rw [Lib.cell_of_heap k, List.getElem?_toArray, List.getElem?_eq_none (by simp only [List.length_cons]; omega)] at hc4
      cases hc4
    · exact fun i hi j x hx => hg.cell (h i hi j x hx) (by simpa using hb)
theorem OpRow.grown {T : TypeId} {w u : World} {vb : Nat} {v v' : Value} {l : List OpD} {fold : Bool} {space : Int} {rest : List Value} (h : OpRow w v' l) (k : Vk T w vb v fold space rest) (hr : rest.length ≤ 1) (hg : w.grownBy u (some vb)) : OpRow u v' l := by
  cases h with
  | nil => exact .nil
  | row b off cap l hlt h =>
    refine .row b off cap l (Nat.lt_of_lt_of_le hlt hg.size) ?_
    by_cases hb : b = vb
    · subst hb
      intro i hi
      exfalso
      have hc4 := h i hi 5 _ rfl
      rw [Lib.cell_of_heap k, List.getElem?_toArray, List.getElem?_eq_none (by simp only [List.length_cons]; omega)] at hc4
      cases hc4
    · exact fun i hi j x hx => hg.cell (h i hi j x hx) (by simpa using hb)
theorem Gd.grown {w u : World} {b : Nat} (h : Gd w) (hg : w.grownBy u (some b)) (hb : 2 ≤ b) : Gd u where
  big := by have := hg.size; have := h.big; omega
  len := by obtain ⟨m, hm⟩ := h.len; exact ⟨m, hg.cell hm (by simp; omega)⟩
  need := fun k hk j v hv => hg.cell (h.need k hk j v hv) (by simp; omega)

/-- A volume at work: its entries and its marks, and all else as it was. -/
structure WkSt (T : TypeId) (w0 : World) (vb : Nat) (fold : Bool) (space : Int) (v0 : Value) (V0 : List EntD) (u : World) (m : Nat) (v : Value) (V : List EntD) : Prop where
  gr : w0.grownBy u (some vb)
  vk : Vk T u vb v fold space [.string (marksB m)]
  row : (v = v0 ∧ V = V0) ∨ u.ownsRow w0.heap.size 54 5 v V.length (flatE V)
theorem WkSt.start {T : TypeId} {w0 : World} {vb : Nat} {fold : Bool} {space : Int} {v0 : Value} {V0 : List EntD} {m : Nat} (h : Vk T w0 vb v0 fold space [.string (marksB m)]) : WkSt T w0 vb fold space v0 V0 w0 m v0 V0 :=
  ⟨⟨rfl, rfl, rfl, Nat.le_refl _, fun _ _ _ => rfl⟩, h, .inl ⟨rfl, rfl⟩⟩
theorem WkSt.rowAt {T : TypeId} {w0 : World} {vb : Nat} {fold : Bool} {space : Int} {v0 : Value} {V0 : List EntD} {u : World} {m m0 : Nat} {v : Value} {V : List EntD} (h : WkSt T w0 vb fold space v0 V0 u m v V) (hk : Vk T w0 vb v0 fold space [.string (marksB m0)]) (hr : RowAt w0 v0 V0) : RowAt u v V := by
  rcases h.row with ⟨rfl, rfl⟩ | ho
  · exact hr.grown hk (by simp) h.gr
  · exact RowAt.ofOwn ho
theorem WkSt.below {T : TypeId} {w0 : World} {vb : Nat} {fold : Bool} {space : Int} {v0 : Value} {V0 : List EntD} {u u' : World} {m : Nat} {v : Value} {V : List EntD} (h : WkSt T w0 vb fold space v0 V0 u m v V) (hb : Below u.heap.size u u') : WkSt T w0 vb fold space v0 V0 u' m v V :=
  ⟨⟨hb.os.trans h.gr.os, hb.tape.trans h.gr.tape, hb.output.trans h.gr.output, Nat.le_trans h.gr.size hb.size, fun k hk hne => (hb.block k (Nat.lt_of_lt_of_le hk h.gr.size)).trans (h.gr.block k hk hne)⟩, h.vk.below hb h.vk.lt, h.row.imp id (own_below hb)⟩
theorem WkSt.mark {T : TypeId} {w0 : World} {vb : Nat} {fold : Bool} {space : Int} {v0 : Value} {V0 : List EntD} {u u' : World} {m m' : Nat} {v : Value} {V : List EntD} (h : WkSt T w0 vb fold space v0 V0 u m v V) (hT : 54 ≠ T) (hk : Vk T u' vb v fold space [.string (marksB m')]) (hg : u.grownBy u' (some vb)) : WkSt T w0 vb fold space v0 V0 u' m' v V :=
  ⟨h.gr.trans hg, hk, h.row.imp id (fun o => own_vk o h.vk hT hg)⟩
theorem WkSt.did {T : TypeId} {w0 : World} {vb : Nat} {fold : Bool} {space : Int} {v0 : Value} {V0 : List EntD} {u u' : World} {m : Nat} {v v' : Value} {V M : List EntD} (h : WkSt T w0 vb fold space v0 V0 u m v V) (hk : Vk T u' vb v' fold space [.string (marksB m)]) (ho : u'.ownsRow u.heap.size 54 5 v' M.length (flatE M)) (hg : u.grownBy u' (some vb)) : WkSt T w0 vb fold space v0 V0 u' m v' M :=
  ⟨h.gr.trans hg, hk, .inr (own_mono ho h.gr.size)⟩
theorem WkSt.from_below {T : TypeId} {w w0 : World} {vb : Nat} {fold : Bool} {space : Int} {v0 : Value} {V0 : List EntD} {u : World} {m : Nat} {v : Value} {V : List EntD} (hb : Below w.heap.size w w0) (h : WkSt T w0 vb fold space v0 V0 u m v V) : WkSt T w vb fold space v0 V0 u m v V :=
  ⟨grown_of hb h.gr, h.vk, h.row.imp id (fun o => own_mono o hb.size)⟩
end Go.Proofs.YtemkpollilhmjaaGreatDoor

/- The program's Work on a volume: what it answers, and what it leaves. -/
namespace Go.Proofs.YtemkpollilhmjaaGreatDoor
open Go.RowKit
set_option linter.unusedVariables false
set_option linter.unusedSimpArgs false

/-- What Work comes to, by the journal's marks m: the error, the place, the tree and the marks behind it. -/
def WorkS (fold : Bool) (space : Int) (V S : List EntD) (l : List OpD) (m : Nat) (e k : Int) (V' : List EntD) (m' : Nat) : Prop :=
  match tryP fold 9223372036854775807 S l with
  | .error (c, p) => m' = m ∧ V' = V ∧ (c = 4 → e = 4 ∧ k = 0) ∧ (c ≠ 4 → e = 18 ∧ k = p)
  | .ok _ => ∃ d : Int, DoneAt V (wayT fold S l) m d ∧ (d = -1 → m' = m ∧ V' = V ∧ e = 16 ∧ k = 0) ∧ ∀ dn : Nat, d = dn → ∃ n : Nat, k = n ∧ seqL fold space V (l.drop dn) dn = (e, n, V') ∧ V' = wayT fold S l n ∧ ((e = 0 ∧ n = l.length ∧ m' = n) ∨ (e ≠ 0 ∧ n < l.length ∧ m' = n + 1 ∧ V' ≠ wayT fold S l (n + 1)))
def WorkA (T : TypeId) (w : World) (vb : Nat) (fold : Bool) (space : Int) (v : Value) (V S : List EntD) (l : List OpD) (m : Nat) (r : Ending) (w' : World) : Prop :=
  ∃ (e k : Int) (m' : Nat) (v' : Value) (V' : List EntD), r = .returned (.tuple #[.int .i64 e, .int .i64 k]) ∧ WkSt T w vb fold space v V w' m' v' V' ∧ VolOk fold V' ∧ WorkS fold space V S l m e k V' m'

theorem try_ok {fold : Bool} {space : Int} {S : List EntD} {l : List OpD} {x : List EntD × Int} (h : tryP fold space S l = .ok x) : l.length ≤ 400 ∧ ∀ o ∈ l, okOp o = true := by
  unfold tryP at h
  split at h
  · cases h
  · split at h
    · cases h
    · rename_i hf
      exact script_good (by simpa using hf)

/-- Where the work stands: so many operations done, so many marks, so much budget. -/
structure WkI (fold : Bool) (space : Int) (W : Nat → List EntD) (l : List OpD) (V0 : List EntD) (d0 : Nat) (V : List EntD) (m d : Nat) (b : Int) : Prop where
  vol : VolOk fold V
  mle : m ≤ l.length
  seq : seqL fold space V0 (l.drop d0) d0 = seqL fold space V (l.drop d) d
  at_ : (d = m ∧ V = W m ∧ 2 * ((l.length : Int) - m) + 1 ≤ b) ∨ (d + 1 = m ∧ V ≠ W m ∧ V = W d ∧ 2 * ((l.length : Int) - m) + 2 ≤ b)
theorem WkI.done {fold : Bool} {space : Int} {W : Nat → List EntD} {l : List OpD} {V0 : List EntD} {d0 : Nat} {V : List EntD} {m d : Nat} {b : Int} (h : WkI fold space W l V0 d0 V m d b) {d' : Int} (hd : DoneAt V W m d') : d' = d := by
  rcases h.at_ with ⟨h1, h2, _⟩ | ⟨h1, h2, h3, _⟩
  · rcases hd with ⟨_, e⟩ | ⟨e, _⟩ | ⟨e, _⟩
    · rw [e, h1]
    · exact absurd h2 e
    · exact absurd h2 e
  · have hm1 : m - 1 = d := by omega
    rcases hd with ⟨e, _⟩ | ⟨_, _, _, e⟩ | ⟨_, e, _⟩
    · exact absurd e h2
    · rw [e]; omega
    · exact absurd (by rw [hm1]; exact h3) (e (by omega))
theorem WkI.pos {fold : Bool} {space : Int} {W : Nat → List EntD} {l : List OpD} {V0 : List EntD} {d0 : Nat} {V : List EntD} {m d : Nat} {b : Int} (h : WkI fold space W l V0 d0 V m d b) : 1 ≤ b ∧ d ≤ l.length ∧ V = W d := by
  have := h.mle
  rcases h.at_ with ⟨h1, h2, h3⟩ | ⟨h1, h2, h3, h4⟩
  · exact ⟨by omega, by omega, by rw [h1]; exact h2⟩
  · exact ⟨by omega, by omega, h3⟩
theorem WkI.start {fold : Bool} {space : Int} {W : Nat → List EntD} {l : List OpD} {V : List EntD} {m d : Nat} {b : Int} (K : VolOk fold V) (hm : m ≤ l.length) (hd : DoneAt V W m d) (hb : 2 * (l.length : Int) + 2 ≤ b) : WkI fold space W l V d V m d b where
  vol := K
  mle := hm
  seq := rfl
  at_ := by
    rcases hd with ⟨e1, e2⟩ | ⟨e1, e2, e3, e4⟩ | ⟨_, _, e⟩
    · exact .inl ⟨by omega, e1, by omega⟩
    · have : m - 1 = d := by omega
      exact .inr ⟨by omega, e1, by rw [← this]; exact e3, by omega⟩
    · omega
/-- A mark is put. -/
theorem WkI.mark {fold : Bool} {space : Int} {W : Nat → List EntD} {l : List OpD} {V0 : List EntD} {d0 : Nat} {V : List EntD} {m : Nat} {b : Int} (h : WkI fold space W l V0 d0 V m m b) (hm : m < l.length) (hs : doL fold 9223372036854775807 (W m) l[m] = .ok (W (m + 1))) : ∃ d, WkI fold space W l V0 d0 V (m + 1) d (b - 1) := by
  have hV : V = W m := h.pos.2.2
  have hb : 2 * ((l.length : Int) - m) + 1 ≤ b := by
    rcases h.at_ with ⟨_, _, h3⟩ | ⟨h1, _⟩
    · exact h3
    · omega
  by_cases he : V = W (m + 1)
  · refine ⟨m + 1, h.vol, by omega, ?_, .inl ⟨rfl, he, by omega⟩⟩
    rw [← hV, ← he] at hs
    rw [h.seq, seq_step hm, do_idle hs]
  · exact ⟨m, h.vol, by omega, h.seq, .inr ⟨rfl, he, hV, by omega⟩⟩
/-- An operation is done. -/
theorem WkI.did {fold : Bool} {space : Int} {W : Nat → List EntD} {l : List OpD} {V0 : List EntD} {d0 : Nat} {V : List EntD} {d : Nat} {b : Int} (h : WkI fold space W l V0 d0 V (d + 1) d b) (hd : d < l.length) (hs : doL fold space V l[d] = .ok (W (d + 1))) (K : VolOk fold (W (d + 1))) : WkI fold space W l V0 d0 (W (d + 1)) (d + 1) (d + 1) (b - 1) where
  vol := K
  mle := h.mle
  seq := by rw [h.seq, seq_step hd, hs]
  at_ := by
    rcases h.at_ with ⟨h1, _⟩ | ⟨_, _, _, h4⟩
    · omega
    · exact .inl ⟨rfl, rfl, by omega⟩

set_option maxHeartbeats 8000000 in
set_option maxRecDepth 100000 in
theorem vWork {T : TypeId} {w : World} {vb : Nat} {v sv lv : Value} {V S : List EntD} {l : List OpD} {fold : Bool} {space : Int} {m : Nat} (hT : 54 ≠ T) (hk : Vk T w vb v fold space [.string (marksB m)]) (hvb : 2 ≤ vb) (hr : RowAt w v V) (K : VolOk fold V) (h0 : 0 ≤ space) (h1 : space ≤ 9223372036854775807) (hs : RowAt w sv S) (hS : SmallL S) (hg : Gd w) (ho : OpRow w lv l) (hl : l.length ≤ 2000000) (hos : ∀ o ∈ l, o.small) (hml : m ≤ l.length) (b : Int) (hb : 2 * (l.length : Int) + 2 ≤ b) (hb2 : b ≤ 9223372036854775807) :
    Calls Tryz.prog 26 #[.pointer (some ⟨vb, 0, none⟩), sv, lv, .int .i64 b] w fun r w' => WorkA T w vb fold space v V S l m r w' := by
  have c1 := hk.vol.c1
  cases hX : tryP fold 9223372036854775807 S l with
  | error ck =>
    obtain ⟨c, k⟩ := ck
    have HC := hidD (vcourseW fold hs hS hg ho hl hos _ hX)
    unfold CrsW at HC
    have HK := hidD hk
    have HV := hidD K
    have HX := hidD hX
    obtain ⟨sa, sc, rfl⟩ := hs.val
    obtain ⟨la, lc, rfl⟩ := ho.val
    clear hs hS hg ho hos hr hk K hX
    by_cases hc4 : c = 4
    · subst hc4
      go_enter Tryz.func26, Tryz.ntmps26
      go_wp2_with (go_at_call 30; refine HC.out.mono ?_; rintro r w1 ⟨rfl, hc, hb1⟩)
      go_ret2
      exact ⟨4, 0, m, v, V, rfl, (WkSt.start HK.out).below hb1, HV.out, by unfold WorkS; rw [HX.out]; exact ⟨rfl, rfl, fun _ => ⟨rfl, rfl⟩, fun h => absurd rfl h⟩⟩
    · have hc5 : (c == 4) = false := by simpa using hc4
      go_enter Tryz.func26, Tryz.ntmps26
      go_wp2_with (go_at_call 30; refine HC.out.mono ?_; rintro r w1 ⟨rfl, hc, hb1⟩; have hc0 : (c == 0) = false := (by simpa using hc))
      go_ret2
      exact ⟨18, k, m, v, V, rfl, (WkSt.start HK.out).below hb1, HV.out, by unfold WorkS; rw [HX.out]; exact ⟨rfl, rfl, fun h => absurd h hc4, fun _ => ⟨rfl, rfl⟩⟩⟩
  | ok mn =>
    have HC := hidD (vcourseW fold hs hS hg ho hl hos _ hX)
    unfold CrsW at HC
    obtain ⟨hl4, hok⟩ := try_ok hX
    have HOK := hidD hok
    have HK := hidD hk
    have HV := hidD K
    have HX := hidD hX
    have HR := hidD hr
    have HG := hidD hg
    have HO := hidD ho
    have HOS := hidD hos
    have hvlt := hk.lt
    obtain ⟨sa, sc, rfl⟩ := hs.val
    obtain ⟨la, lc, rfl⟩ := ho.val
    clear hs hS hg ho hos hr hk K hX hok
    go_enter Tryz.func26, Tryz.ntmps26
    go_wp2_with (go_at_call 30; refine HC.out.mono ?_; clear HC; rintro r w1 ⟨g, cap, vs, rfl, hb1, hgg, hvl, hcell, hrows, hvok, hway⟩; have HCELL := hidD hcell; have HROWS := hidD hrows; have HVOK := hidD hvok; have HWAY := hidD hway; clear hcell hrows hvok hway)
    have HK1 := hidD (HK.out.below hb1 hvlt)
    have HR1 := hidD (HR.out.below hb1 (Nat.le_refl _))
    have HG1 := hidD (HG.out.below hb1)
    have HO1 := hidD (HO.out.below hb1 (Nat.le_refl _))
    have HB1 := hidD hb1
    have hvlt1 : vb < w1.heap.size := Nat.lt_of_lt_of_le hvlt hb1.size
    have hglt1 : g < w1.heap.size := by
      have := HCELL.out 0 (by omega)
      exact cell_lt this
    have hgne : g ≠ vb := by omega
    clear HR HG HO hb1
    -- how many are done, at the beginning
    have hdone : ∃ d : Int, DoneAt V (wayT fold S l) m d := by
      by_cases e1 : V = wayT fold S l m
      · exact ⟨_, .inl ⟨e1, rfl⟩⟩
      · by_cases e2 : 0 < m ∧ V = wayT fold S l (m - 1)
        · exact ⟨_, .inr (.inl ⟨e1, e2.1, e2.2, rfl⟩)⟩
        · exact ⟨_, .inr (.inr ⟨e1, fun h h' => e2 ⟨h, h'⟩, rfl⟩)⟩
    obtain ⟨d0, hd0⟩ := hdone
    by_cases hneg : d0 = -1
    · -- the tree is another
      have HD := hidD (vdone HK1.out HR1.out (by have := HV.out.few; omega) hml hl hvl hglt1 HCELL.out (cap := cap) HROWS.out)
      have HD0 := hidD hd0
      clear hd0
      refine wp_loop_rounds 1 ?_
      rw [rounds_succ]
      go_wp2_with (go_at_call 41; refine HD.out.mono ?_; rintro r w2 ⟨d, rfl, hd, hb2'⟩; obtain rfl := done_neg HD0.out hneg hd; clear hd)
      go_ret2
      exact ⟨16, 0, m, v, V, rfl, ((WkSt.start HK1.out).below hb2').from_below HB1.out, HV.out, by unfold WorkS; rw [HX.out]; exact ⟨-1, hneg ▸ HD0.out, fun _ => ⟨rfl, rfl, rfl, rfl⟩, fun dn h => absurd h (by omega)⟩⟩
    · obtain ⟨dn0, hdn0⟩ : ∃ n : Nat, d0 = n := by
        rcases hd0 with ⟨_, e⟩ | ⟨_, h, _, e⟩ | ⟨_, _, e⟩
        · exact ⟨m, e⟩
        · exact ⟨m - 1, by omega⟩
        · exact absurd e hneg
      subst hdn0
      have I0 := hidD (WkI.start (space := space) HV.out hml hd0 hb)
      have S0 := hidD (WkSt.start (V0 := V) HK1.out)
      have HFIN := hidD (fun (e : Int) (n m' : Nat) (v' : Value) (V' : List EntD) (w' : World) (hw : WkSt T w1 vb fold space v V w' m' v' V') (hv : VolOk fold V') (h2 : seqL fold space V (l.drop dn0) dn0 = (e, n, V')) (h3 : V' = wayT fold S l n) (h4 : (e = 0 ∧ n = l.length ∧ m' = n) ∨ (e ≠ 0 ∧ n < l.length ∧ m' = n + 1 ∧ V' ≠ wayT fold S l (n + 1))) => show WorkA T w vb fold space v V S l m (.returned (.tuple #[.int .i64 e, .int .i64 n])) w' from ⟨e, n, m', v', V', rfl, hw.from_below HB1.out, hv, by unfold WorkS; rw [HX.out]; exact ⟨dn0, hd0, fun h => absurd h hneg, fun dn h => (by have hdd : dn = dn0 := (by omega); rw [hdd]; exact ⟨n, rfl, h2, h3, h4⟩)⟩⟩)
      clear hd0 hneg HX HV HB1
      go_loopw [3] (fun bv wr => ∃ (b : Int) (m d : Nat) (v' : Value) (V' : List EntD), bv = .int .i64 b ∧ b ≤ 9223372036854775807 ∧ Hid (WkSt T w1 vb fold space v V wr m v' V') ∧ Hid (WkI fold space (wayT fold S l) l V dn0 V' m d b)) (fun bv _ => (intOf bv).toNat)
      case atStart => exact ⟨b, m, dn0, v, V, rfl, hb2, S0, I0⟩
      case round =>
        clear S0 I0 hb hb2 hml HK
        obtain ⟨b1, m1, d, v', V', rfl, hb2, SS, I⟩ := hrel
        have hml := I.out.mle
        obtain ⟨hbp, hdl, hVd⟩ := I.out.pos
        have hr' := SS.out.rowAt HK1.out HR1.out
        have HD := hidD (vdone SS.out.vk hr' (by have := I.out.vol.few; omega) hml hl hvl (Nat.lt_of_lt_of_le hglt1 SS.out.gr.size) (fun j h => SS.out.gr.cell (HCELL.out j h) (by simpa using hgne)) (cap := cap) (fun j h => (HROWS.out j h).grown HK1.out (by simp) SS.out.gr))
        have HR' := hidD hr'
        have HVd := hidD hVd
        clear hr' hVd
        by_cases hdl2 : d = l.length
        · subst hdl2
          have hdI : ((l.length : Int) == (l.length : Int)) = true := by simp
          go_wp2_with (go_at_call 41; refine HD.out.mono ?_; rintro r w2 ⟨d', rfl, hd', hb2'⟩; obtain rfl := I.out.done hd'; clear hd')
          go_ret2
          refine HFIN.out 0 l.length m1 v' V' _ (SS.out.below hb2') I.out.vol ?_ HVd.out (.inl ⟨rfl, rfl, ?_⟩)
          · rw [I.out.seq, seq_end]
          · rcases I.out.at_ with ⟨h1, _⟩ | ⟨h1, _⟩
            · exact h1.symm
            · omega
        · have hlt : d < l.length := by omega
          have hdI : ((d : Int) == (l.length : Int)) = false := by simp; omega
          have hbI : ¬ (b1 ≤ 0) := by omega
          obtain ⟨b2, off2, rfl, _, hlb2, hops⟩ := op_parts (HO1.out.grown HK1.out (by simp) SS.out.gr) hlt
          have hok := HOK.out _ (List.getElem_mem hlt)
          have hsm := HOS.out _ (List.getElem_mem hlt)
          have hstep := HWAY.out d hlt
          rw [← HVd.out] at hstep
          have HST := hidD hstep
          have HOPS := hidD (hops d hlt)
          have IM := hidD (fun (e : d = m1) => (e ▸ I.out : WkI fold space (wayT fold S l) l V dn0 V' m1 m1 b1).mark (e ▸ hlt) (HWAY.out m1 (e ▸ hlt)))
          have ID := hidD (fun (e : d + 1 = m1) (hs : doL fold space V' l[d] = .ok (wayT fold S l (d + 1))) => (e ▸ I.out : WkI fold space (wayT fold S l) l V dn0 V' (d + 1) d b1).did hlt hs (HVOK.out _ (by omega)))
          have IE := hidD (fun (c : Int) (hs : doL fold space V' l[d] = .error c) => show seqL fold space V (l.drop dn0) dn0 = (c, d, V') from by rw [I.out.seq, seq_step hlt, hs])
          have hops' := HOPS.out
          generalize l[d] = o at *
          clear hops hstep hops'
          have hlb3 : b2 < wr.heap.size := hlb2
          rcases I.out.at_ with ⟨hdm, _, _⟩ | ⟨hdm, hne, _, _⟩
          · -- the mark
            obtain ⟨d2, I2⟩ := IM.out hdm
            have I3 := hidD I2
            have hmd : m1 ≤ d := by omega
            subst hdm
            clear I2 IM ID IE HST HR'
            go_wp2_with (first | (go_at_call 41; refine HD.out.mono ?_; rintro r w2 ⟨d', rfl, hd', hb2'⟩; obtain rfl := I.out.done hd'; clear hd'; have k0 := cell_kept hb2' hlb3 (HOPS.out 0 _ rfl); have k1 := cell_kept hb2' hlb3 (HOPS.out 1 _ rfl); have k2 := cell_kept hb2' hlb3 (HOPS.out 2 _ rfl); have k3 := cell_kept hb2' hlb3 (HOPS.out 3 _ rfl); have k4 := cell_kept hb2' hlb3 (HOPS.out 4 _ rfl); have k5 := cell_kept hb2' hlb3 (HOPS.out 5 _ rfl); simp only [Nat.add_zero] at k0) | (go_at_call 42; refine (step_mark (SS.out.below hb2').vk d o hmd (by omega)).mono ?_; rintro r w3 ⟨rfl, hk3, hg3⟩))
            exact ⟨⟨b1 - 1, d + 1, d2, v', V', by first | rfl | go_num, by omega, hidD ((SS.out.below hb2').mark hT hk3 hg3), I3⟩, by simp [intOf]; omega⟩
          · have hdm' : d < m1 := by omega
            subst hdm
            have HNE := hidD hne
            have HDO := hidD (fun (u : World) (hu : Below wr.heap.size wr u) => step_do (SS.out.below hu).vk (HR'.out.below hu (Nat.le_refl _)) I.out.vol ((HG1.out.grown SS.out.gr hvb).below hu) o hok hsm h0 h1 d hdm' (by omega))
            clear IM HR' hne
            cases hd : doL fold space V' o with
            | error c =>
              have hc0 := do_err hd
              have hcb : (c != 0) = true := by simpa using hc0
              have hfin := IE.out c hd
              have HF := hidD hfin
              rw [hd] at HDO
              unfold DoA at HDO
              clear hd hfin IE ID HST
              go_wp2_with (first | (go_at_call 41; refine HD.out.mono ?_; rintro r w2 ⟨d', rfl, hd', hb2'⟩; obtain rfl := I.out.done hd'; clear hd'; have k0 := cell_kept hb2' hlb3 (HOPS.out 0 _ rfl); have k1 := cell_kept hb2' hlb3 (HOPS.out 1 _ rfl); have k2 := cell_kept hb2' hlb3 (HOPS.out 2 _ rfl); have k3 := cell_kept hb2' hlb3 (HOPS.out 3 _ rfl); have k4 := cell_kept hb2' hlb3 (HOPS.out 4 _ rfl); have k5 := cell_kept hb2' hlb3 (HOPS.out 5 _ rfl); simp only [Nat.add_zero] at k0) | (go_at_call 42; refine (HDO.out _ hb2').mono ?_; rintro r w3 ⟨rfl, hb3⟩))
              go_ret2
              exact HFIN.out c d (d + 1) v' V' _ ((SS.out.below hb2').below hb3) I.out.vol HF.out HVd.out (.inr ⟨hc0, hlt, rfl, HNE.out⟩)
            | ok M =>
              have hM : M = wayT fold S l (d + 1) := by
                rcases do_two (space := space) HST.out with h | ⟨h, _⟩
                · rw [hd] at h
                  exact Except.ok.inj h
                · rw [hd] at h
                  cases h
              subst hM
              have I3 := hidD (ID.out rfl hd)
              rw [hd] at HDO
              unfold DoA at HDO
              clear hd IE ID HST
              generalize wayT fold S l (d + 1) = M at *
              go_wp2_with (first | (go_at_call 41; refine HD.out.mono ?_; rintro r w2 ⟨d', rfl, hd', hb2'⟩; obtain rfl := I.out.done hd'; clear hd'; have k0 := cell_kept hb2' hlb3 (HOPS.out 0 _ rfl); have k1 := cell_kept hb2' hlb3 (HOPS.out 1 _ rfl); have k2 := cell_kept hb2' hlb3 (HOPS.out 2 _ rfl); have k3 := cell_kept hb2' hlb3 (HOPS.out 3 _ rfl); have k4 := cell_kept hb2' hlb3 (HOPS.out 4 _ rfl); have k5 := cell_kept hb2' hlb3 (HOPS.out 5 _ rfl); simp only [Nat.add_zero] at k0) | (go_at_call 42; refine (HDO.out _ hb2').mono ?_; rintro r w3 ⟨rfl, v3, hk3, ho3, hg3⟩))
              exact ⟨⟨b1 - 1, d + 1, d + 1, v3, M, by first | rfl | go_num, by omega, hidD ((SS.out.below hb2').did hk3 ho3 hg3), I3⟩, by simp [intOf]; omega⟩
end Go.Proofs.YtemkpollilhmjaaGreatDoor

/- Work at the face: what gives up is caught there, and nothing does. -/
namespace Go.Proofs.YtemkpollilhmjaaGreatDoor
open Go.RowKit
set_option linter.unusedVariables false
set_option linter.unusedSimpArgs false

theorem catch_idle (p q : Addr) (w : World) :
    CallsD Tryz.prog 40 #[.pointer (some p), .pointer (some q)] .returning w fun e u' w' => e = .returned (.tuple #[]) ∧ u' = .returning ∧ w' = w := by
  refine callsD_of_wpS Tryz.func40 rfl fun c₀ cs hu => ?_
  apply wpS_seq
  apply wpS_region
  simp [wpOpsS, go_sem, recoverD, hu, Tryz.ntmps40, Exit.thenS]
  refine wpS_of_wp ?_
  go_wp2
  cases c₀
  simp_all [bodyPostS, results, Tryz.results40]

/-- What caught leaves where nothing gives up: two boxes of its own. -/
theorem caughtW_ok (P0 P1 P2 P3 P4 P5 : Addr) (w : World) (R : World → Prop)
    (hc : Calls Tryz.prog 25 #[.pointer (some P0), .pointer (some P1), .pointer (some P2), .pointer (some P3), .pointer (some P4), .pointer (some P5)] ((w.alloc (.cells #[.int .i64 0] 31)).alloc (.cells #[.int .i64 0] 3)) fun e w' => e = .returned (.tuple #[]) ∧ Boxed w' w.heap.size 31 (.int .i64 0) ∧ Boxed w' (w.heap.size + 1) 3 (.int .i64 0) ∧ R w')
    (hR : ∀ u, R u → R ((u.setCell ⟨w.heap.size, 0, none⟩ (.int .i64 0)).setCell ⟨w.heap.size + 1, 0, none⟩ (.int .i64 0))) :
    Calls Tryz.prog 24 #[.func (.func 25) #[] #[.pointer (some P0), .pointer (some P1), .pointer (some P2), .pointer (some P3), .pointer (some P4), .pointer (some P5)]] w fun e w' => e = .returned (.tuple #[.int .i64 0, .int .i64 0]) ∧ R w' := by
  have hmf : ∀ (fn : Fn) (first cap : Array Value) (w : World), (Instr.makeFunc fn first cap).run Tryz.prog w = .ok (.func fn first cap) w := fun _ _ _ _ => rfl
  go_enter_defers Tryz.func24, Tryz.ntmps24
  go_wp2_with (go_at_call 25; refine hc.mono ?_; rintro e w1 ⟨rfl, b0, b1, hr⟩; have c0 := b0.cell; have f0 := b0.frozen; have c1 := b1.cell; have f1 := b1.frozen)
  refine leaves_cons (f := 40) (args := #[.pointer (some ⟨w.heap.size, 0, none⟩), .pointer (some ⟨w.heap.size + 1, 0, none⟩)]) (by simp) (by simp [go_sem]) ?_
  refine (catch_idle ⟨w.heap.size, 0, none⟩ ⟨w.heap.size + 1, 0, none⟩ _).mono ?_
  rintro e u' w'' ⟨rfl, rfl, rfl⟩
  simp [Leaves, settle, results, Tryz.results24, go_sem, c0, c1]
  exact hR _ hr

set_option maxHeartbeats 4000000 in
set_option maxRecDepth 100000 in
/-- The closure that Work hands over. -/
theorem work1 {u : World} {B vb : Nat} {sv lv : Value} {b : Int} (Q : Int → Int → World → Prop)
    (b0 : Boxed u B 46 (.pointer (some ⟨vb, 0, none⟩))) (b1 : Boxed u (B + 1) 22 sv) (b2 : Boxed u (B + 2) 23 lv) (b3 : Boxed u (B + 3) 3 (.int .i64 b)) (b4 : Boxed u (B + 4) 31 (.int .i64 0)) (b5 : Boxed u (B + 5) 3 (.int .i64 0)) (hsv : ∃ a n c, sv = .slice a n c) (hlv : ∃ a n c, lv = .slice a n c)
    (HW : ∀ u', Below u.heap.size u u' → Calls Tryz.prog 26 #[.pointer (some ⟨vb, 0, none⟩), sv, lv, .int .i64 b] u' fun r w' => ∃ e k : Int, r = .returned (.tuple #[.int .i64 e, .int .i64 k]) ∧ Boxed w' B 46 (.pointer (some ⟨vb, 0, none⟩)) ∧ Boxed w' (B + 1) 22 sv ∧ Boxed w' (B + 2) 23 lv ∧ Boxed w' (B + 3) 3 (.int .i64 b) ∧ Boxed w' (B + 4) 31 (.int .i64 0) ∧ Boxed w' (B + 5) 3 (.int .i64 0) ∧ Q e k w') :
    Calls Tryz.prog 25 #[.pointer (some ⟨B, 0, none⟩), .pointer (some ⟨B + 1, 0, none⟩), .pointer (some ⟨B + 2, 0, none⟩), .pointer (some ⟨B + 3, 0, none⟩), .pointer (some ⟨B + 4, 0, none⟩), .pointer (some ⟨B + 5, 0, none⟩)] u fun r w' => r = .returned (.tuple #[]) ∧ ∃ (e k : Int) (w1 : World), Q e k w1 ∧ Boxed w1 (B + 4) 31 (.int .i64 0) ∧ Boxed w1 (B + 5) 3 (.int .i64 0) ∧ w' = (w1.setCell ⟨B + 4, 0, none⟩ (.int .i64 e)).setCell ⟨B + 5, 0, none⟩ (.int .i64 k) := by
  have c0 := b0.cell
  have c1 := b1.cell
  have c2 := b2.cell
  have c3 := b3.cell
  obtain ⟨sa, sn, sc, rfl⟩ := hsv
  obtain ⟨la, ln, lc, rfl⟩ := hlv
  have HW' := hidD HW
  clear HW
  go_enter Tryz.func25, Tryz.ntmps25
  go_wp2
  go_region_held3 (fun u => u.cell? ⟨B, 0, none⟩ = some (.pointer (some ⟨vb, 0, none⟩)) ∧ u.cell? ⟨B + 1, 0, none⟩ = some (.slice sa sn sc) ∧ u.cell? ⟨B + 2, 0, none⟩ = some (.slice la ln lc) ∧ u.cell? ⟨B + 3, 0, none⟩ = some (.int .i64 b)) (go_keep) (first | (go_at_call 26; refine (HW'.out u.drew ⟨rfl, rfl, rfl, Nat.le_refl _, fun _ _ => rfl⟩).mono ?_; rintro r w1 ⟨e, k, rfl, d0, d1, d2, d3, d4, d5, hq⟩; have y0 := d0.cell; have y1 := d1.cell; have y2 := d2.cell; have y3 := d3.cell; have y4 := d4.cell; have y5 := d5.cell; have f4 := d4.frozen; have f5 := d5.frozen))
  refine bodyPost_end (results_none rfl _ _ _) rfl ?_
  exact ⟨rfl, e, k, w1, hq, d4, d5, rfl⟩

theorem boxed_belowW {w u : World} {B : Nat} {t : TypeId} {v : Value} (h : Boxed w B t v) (hb : Below w.heap.size w u) : Boxed u B t v := (hb.block B h.lt).trans h
theorem boxed_newW (u : World) (t : TypeId) (x : Value) (n : Nat) (h : u.heap.size = n) : Boxed (u.alloc (.cells #[x] t)) n t x := by
  rw [← h]
  exact Boxed.new u t x
theorem gb_setW (w : World) (b : Nat) (v : Value) : w.grownBy (w.setCell ⟨b, 0, none⟩ v) (some b) := gb_set w b 0 v

/-- The boxes of the face and of what catches. -/
abbrev wk6 (w : World) (vb : Nat) (sv lv : Value) (b : Int) : World := (((((w.alloc (.cells #[.pointer (some ⟨vb, 0, none⟩)] 46)).alloc (.cells #[sv] 22)).alloc (.cells #[lv] 23)).alloc (.cells #[.int .i64 b] 3)).alloc (.cells #[.int .i64 0] 31)).alloc (.cells #[.int .i64 0] 3)
abbrev wk8 (w : World) (vb : Nat) (sv lv : Value) (b : Int) : World := ((wk6 w vb sv lv b).alloc (.cells #[.int .i64 0] 31)).alloc (.cells #[.int .i64 0] 3)
structure Bx8 (w u : World) (B vb : Nat) (sv lv : Value) (b : Int) : Prop where
  bel : Below B w u
  size : u.heap.size = B + 8
  b0 : Boxed u B 46 (.pointer (some ⟨vb, 0, none⟩))
  b1 : Boxed u (B + 1) 22 sv
  b2 : Boxed u (B + 2) 23 lv
  b3 : Boxed u (B + 3) 3 (.int .i64 b)
  b4 : Boxed u (B + 4) 31 (.int .i64 0)
  b5 : Boxed u (B + 5) 3 (.int .i64 0)
  b6 : Boxed u (B + 6) 31 (.int .i64 0)
  b7 : Boxed u (B + 7) 3 (.int .i64 0)
theorem Bx8.of (w : World) (vb : Nat) (sv lv : Value) (b : Int) : Bx8 w (wk8 w vb sv lv b) w.heap.size vb sv lv b where
  bel := (((((((((Below.refl _ _).alloc (Nat.le_refl _) _).alloc (by simp) _).alloc (by simp; omega) _).alloc (by simp; omega) _).alloc (by simp; omega) _).alloc (by simp; omega) _).alloc (by simp; omega) _).alloc (by simp; omega) _)
  size := by simp
  b0 := (((((((boxed_newW w 46 _ _ rfl).alloc _).alloc _).alloc _).alloc _).alloc _).alloc _).alloc _
  b1 := ((((((boxed_newW _ 22 _ _ (by simp)).alloc _).alloc _).alloc _).alloc _).alloc _).alloc _
  b2 := (((((boxed_newW _ 23 _ _ (by simp)).alloc _).alloc _).alloc _).alloc _).alloc _
  b3 := ((((boxed_newW _ 3 _ _ (by simp)).alloc _).alloc _).alloc _).alloc _
  b4 := (((boxed_newW _ 31 _ _ (by simp)).alloc _).alloc _).alloc _
  b5 := ((boxed_newW _ 3 _ _ (by simp)).alloc _).alloc _
  b6 := (boxed_newW _ 31 _ _ (by simp)).alloc _
  b7 := boxed_newW _ 3 _ _ (by simp)

theorem WkSt.box {T : TypeId} {w0 : World} {vb : Nat} {fold : Bool} {space : Int} {v0 : Value} {V0 : List EntD} {u : World} {m : Nat} {v : Value} {V : List EntD} (h : WkSt T w0 vb fold space v0 V0 u m v V) (hv : vb < w0.heap.size) {B : Nat} {t : TypeId} {x : Value} (hb : Boxed u B t x) (ht : 54 ≠ t) (hB : w0.heap.size ≤ B) (y : Value) : WkSt T w0 vb fold space v0 V0 (u.setCell ⟨B, 0, none⟩ y) m v V where
  gr := ⟨h.gr.os, h.gr.tape, h.gr.output, by simp; exact h.gr.size, fun k hk hne => ((gb_setW u B y).block k (Nat.lt_of_lt_of_le hk h.gr.size) (by simp; omega)).trans (h.gr.block k hk hne)⟩
  vk := ((gb_setW u B y).block vb h.vk.lt (by simp; omega)).trans h.vk
  row := h.row.imp id (fun o => o.kept (gb_setW u B y) (by
    cases hbk : v.ownBlock with
    | none => exact .inl rfl
    | some g =>
      refine .inr (fun e => ?_)
      obtain ⟨cs, h1⟩ := own_block o hbk
      cases e
      rw [show u.heap[B]? = _ from hb] at h1
      simp only [Option.some.injEq, Obj.cells.injEq] at h1
      exact ht h1.2.1.symm))

/-- What stands in the boxes behind the work. -/
structure WkR (w : World) (B vb : Nat) (fold : Bool) (space : Int) (v : Value) (V S : List EntD) (l : List OpD) (m : Nat) (u : World) (e k : Int) (m' : Nat) (v' : Value) (V' : List EntD) : Prop where
  st : WkSt 64 w vb fold space v V u m' v' V'
  ok : VolOk fold V'
  said : WorkS fold space V S l m e k V' m'
  b4 : Boxed u (B + 4) 31 (.int .i64 e)
  b5 : Boxed u (B + 5) 3 (.int .i64 k)
  b6 : Boxed u (B + 6) 31 (.int .i64 0)
  b7 : Boxed u (B + 7) 3 (.int .i64 0)

set_option maxHeartbeats 4000000 in
set_option maxRecDepth 100000 in
theorem cWork {w : World} {vb : Nat} {v sv lv : Value} {V S : List EntD} {l : List OpD} {fold : Bool} {space : Int} {m : Nat} (hk : Vk 64 w vb v fold space [.string (marksB m)]) (hvb : 2 ≤ vb) (hr : RowAt w v V) (K : VolOk fold V) (h0 : 0 ≤ space) (h1 : space ≤ 9223372036854775807) (hs : RowAt w sv S) (hS : SmallL S) (hg : Gd w) (ho : OpRow w lv l) (hl : l.length ≤ 2000000) (hos : ∀ o ∈ l, o.small) (hml : m ≤ l.length) (b : Int) (hb : 2 * (l.length : Int) + 2 ≤ b) (hb2 : b ≤ 9223372036854775807) :
    Calls Tryz.prog 16 #[.pointer (some ⟨vb, 0, none⟩), sv, lv, .int .i64 b] w fun r w' => WorkA 64 w vb fold space v V S l m r w' := by
  have hlt := hk.lt
  have X8 := Bx8.of w vb sv lv b
  have HW : ∀ u', Below (wk8 w vb sv lv b).heap.size (wk8 w vb sv lv b) u' → Calls Tryz.prog 26 #[.pointer (some ⟨vb, 0, none⟩), sv, lv, .int .i64 b] u' fun r w' => ∃ e k : Int, r = .returned (.tuple #[.int .i64 e, .int .i64 k]) ∧ Boxed w' w.heap.size 46 (.pointer (some ⟨vb, 0, none⟩)) ∧ Boxed w' (w.heap.size + 1) 22 sv ∧ Boxed w' (w.heap.size + 2) 23 lv ∧ Boxed w' (w.heap.size + 3) 3 (.int .i64 b) ∧ Boxed w' (w.heap.size + 4) 31 (.int .i64 0) ∧ Boxed w' (w.heap.size + 5) 3 (.int .i64 0) ∧ (Boxed w' (w.heap.size + 6) 31 (.int .i64 0) ∧ Boxed w' (w.heap.size + 7) 3 (.int .i64 0) ∧ ∃ m' v' V', WkSt 64 w vb fold space v V w' m' v' V' ∧ VolOk fold V' ∧ WorkS fold space V S l m e k V' m') := by
    intro u' hu
    have hbw : Below w.heap.size w u' := X8.bel.trans (hu.mono X8.bel.size)
    refine (vWork (by decide) (hk.below hbw hlt) hvb (hr.below hbw (Nat.le_refl _)) K h0 h1 (hs.below hbw (Nat.le_refl _)) hS (hg.below hbw) (ho.below hbw (Nat.le_refl _)) hl hos hml b hb hb2).mono ?_
    rintro r w' ⟨e, k, m', v', V', rfl, st, ok, said⟩
    have kp : ∀ {B : Nat} {t : TypeId} {x : Value}, Boxed (wk8 w vb sv lv b) B t x → w.heap.size ≤ B → Boxed w' B t x := fun h hB => (boxed_belowW h hu).kept st.gr (by simp; omega)
    exact ⟨e, k, rfl, kp X8.b0 (by omega), kp X8.b1 (by omega), kp X8.b2 (by omega), kp X8.b3 (by omega), kp X8.b4 (by omega), kp X8.b5 (by omega), kp X8.b6 (by omega), kp X8.b7 (by omega), m', v', V', st.from_below hbw, ok, said⟩
  have H44 := work1 (fun e k w' => Boxed w' (w.heap.size + 6) 31 (.int .i64 0) ∧ Boxed w' (w.heap.size + 7) 3 (.int .i64 0) ∧ ∃ m' v' V', WkSt 64 w vb fold space v V w' m' v' V' ∧ VolOk fold V' ∧ WorkS fold space V S l m e k V' m') X8.b0 X8.b1 X8.b2 X8.b3 X8.b4 X8.b5 (by obtain ⟨a, c, e⟩ := hs.val; exact ⟨_, _, _, e⟩) (by obtain ⟨a, c, e⟩ := ho.val; exact ⟨_, _, _, e⟩) HW
  have h6 : (wk6 w vb sv lv b).heap.size = w.heap.size + 6 := by simp
  have HC := caughtW_ok ⟨w.heap.size, 0, none⟩ ⟨w.heap.size + 1, 0, none⟩ ⟨w.heap.size + 2, 0, none⟩ ⟨w.heap.size + 3, 0, none⟩ ⟨w.heap.size + 4, 0, none⟩ ⟨w.heap.size + 5, 0, none⟩ (wk6 w vb sv lv b) (fun u => ∃ e k m' v' V', WkR w w.heap.size vb fold space v V S l m u e k m' v' V') (H44.mono (by
    rintro r w' ⟨rfl, e, k, w1, ⟨d6, d7, m', v', V', st, ok, said⟩, d4, d5, rfl⟩
    rw [h6]
    have g4 := gb_setW w1 (w.heap.size + 4) (.int .i64 e)
    have g5 := gb_setW (w1.setCell ⟨w.heap.size + 4, 0, none⟩ (.int .i64 e)) (w.heap.size + 5) (.int .i64 k)
    have b6 := (d6.kept g4 (by simp)).kept g5 (by simp)
    have b7 := (d7.kept g4 (by simp)).kept g5 (by simp)
    have b5 := d5.kept g4 (by simp)
    exact ⟨rfl, b6, b7, e, k, m', v', V', (st.box hlt d4 (by decide) (by omega) _).box hlt b5 (by decide) (by omega) _, ok, said, (d4.set _).kept g5 (by simp), b5.set _, b6, b7⟩)) (by
    rintro u ⟨e, k, m', v', V', R⟩
    rw [h6]
    have g6 := gb_setW u (w.heap.size + 6) (.int .i64 0)
    have g7 := gb_setW (u.setCell ⟨w.heap.size + 6, 0, none⟩ (.int .i64 0)) (w.heap.size + 6 + 1) (.int .i64 0)
    have b7 := R.b7.kept g6 (by simp)
    exact ⟨e, k, m', v', V', (R.st.box hlt R.b6 (by decide) (by omega) _).box hlt b7 (by decide) (by omega) _, R.ok, R.said, (R.b4.kept g6 (by simp)).kept g7 (by simp), (R.b5.kept g6 (by simp)).kept g7 (by simp), (R.b6.set _).kept g7 (by simp), b7.set _⟩)
  have HCC := hidD HC
  obtain ⟨sa, sc, rfl⟩ := hs.val
  obtain ⟨la, lc, rfl⟩ := ho.val
  clear HC H44 HW X8 hk hr K hs hS hg ho hos h6
  have hmf : ∀ (fn : Fn) (first cap : Array Value) (w : World), (Instr.makeFunc fn first cap).run Tryz.prog w = .ok (.func fn first cap) w := fun _ _ _ _ => rfl
  go_enter Tryz.func16, Tryz.ntmps16
  go_wp2_with (go_at_call 24; refine HCC.out.mono ?_; rintro r w1 ⟨rfl, e, k, m', v', V', R⟩; have k4 := R.b4.cell; have k5 := R.b5.cell)
  go_quiet (fail)
  go_wp2
  go_ret2
  exact ⟨e, k, m', v', V', rfl, R.st.below (below_drewE _ _), R.ok, R.said⟩
end Go.Proofs.YtemkpollilhmjaaGreatDoor

/- The program's Work on a volume with whatever budget, where the script goes and the volume stands somewhere on its way. -/
namespace Go.Proofs.YtemkpollilhmjaaGreatDoor
open Go.RowKit
set_option linter.unusedVariables false
set_option linter.unusedSimpArgs false

/-- A volume on the way of a script: so many operations done, so many marks. -/
structure WkV (fold : Bool) (W : Nat → List EntD) (l : List OpD) (V : List EntD) (m d : Nat) : Prop where
  vol : VolOk fold V
  mle : m ≤ l.length
  at_ : (d = m ∧ V = W m) ∨ (d + 1 = m ∧ V ≠ W m ∧ V = W d)
/-- How much is left to do: a step takes one off. -/
def muW (l : List OpD) (m d : Nat) : Int := 2 * ((l.length : Int) - m) + (if d = m then 1 else 2)
theorem WkV.here {fold : Bool} {W : Nat → List EntD} {l : List OpD} {V : List EntD} {m d : Nat} (h : WkV fold W l V m d) : d ≤ l.length ∧ V = W d ∧ 1 ≤ muW l m d := by
  have := h.mle
  unfold muW
  rcases h.at_ with ⟨h1, h2⟩ | ⟨h1, h2, h3⟩
  · rw [if_pos h1]
    exact ⟨by omega, by rw [h1]; exact h2, by omega⟩
  · rw [if_neg (by omega)]
    exact ⟨by omega, h3, by omega⟩
theorem WkV.done {fold : Bool} {W : Nat → List EntD} {l : List OpD} {V : List EntD} {m d : Nat} (h : WkV fold W l V m d) {d' : Int} (hd : DoneAt V W m d') : d' = d := by
  rcases h.at_ with ⟨h1, h2⟩ | ⟨h1, h2, h3⟩
  · rcases hd with ⟨_, e⟩ | ⟨e, _⟩ | ⟨e, _⟩
    · rw [e, h1]
    · exact absurd h2 e
    · exact absurd h2 e
  · have hm1 : m - 1 = d := by omega
    rcases hd with ⟨e, _⟩ | ⟨_, _, _, e⟩ | ⟨_, e, _⟩
    · exact absurd e h2
    · rw [e]; omega
    · exact absurd (by rw [hm1]; exact h3) (e (by omega))
theorem WkV.mark {fold : Bool} {W : Nat → List EntD} {l : List OpD} {V : List EntD} {m : Nat} (h : WkV fold W l V m m) (hm : m < l.length) : ∃ d, WkV fold W l V (m + 1) d ∧ m ≤ d ∧ muW l (m + 1) d + 1 ≤ muW l m m := by
  have hV : V = W m := h.here.2.1
  unfold muW
  by_cases he : V = W (m + 1)
  · exact ⟨m + 1, ⟨h.vol, by omega, .inl ⟨rfl, he⟩⟩, by omega, by rw [if_pos rfl, if_pos rfl]; omega⟩
  · exact ⟨m, ⟨h.vol, by omega, .inr ⟨rfl, he, hV⟩⟩, by omega, by rw [if_neg (by omega), if_pos rfl]; omega⟩
theorem WkV.did {fold : Bool} {W : Nat → List EntD} {l : List OpD} {V : List EntD} {d : Nat} (h : WkV fold W l V (d + 1) d) (K : VolOk fold (W (d + 1))) : WkV fold W l (W (d + 1)) (d + 1) (d + 1) ∧ muW l (d + 1) (d + 1) + 1 ≤ muW l (d + 1) d := by
  unfold muW
  exact ⟨⟨K, h.mle, .inl ⟨rfl, rfl⟩⟩, by rw [if_pos rfl, if_neg (by omega)]; omega⟩

/-- How such a Work ends: all is done; or the budget is spent; or an operation lacks space. -/
def WorkE (fold : Bool) (space : Int) (l : List OpD) (V' : List EntD) (m d m' d' : Nat) (b e k : Int) : Prop :=
  (e = 0 ∧ k = l.length ∧ d' = l.length) ∨ (e = 17 ∧ k = 0 ∧ d' < l.length ∧ muW l m' d' + b ≤ muW l m d) ∨ (e = 11 ∧ k = d' ∧ m' = d' + 1 ∧ ∃ h : d' < l.length, doL fold space V' l[d'] = .error 11)
def WorkG (T : TypeId) (w : World) (vb : Nat) (fold : Bool) (space : Int) (v : Value) (V S : List EntD) (l : List OpD) (m d : Nat) (b : Int) (r : Ending) (w' : World) : Prop :=
  ∃ (e k : Int) (m' d' : Nat) (v' : Value) (V' : List EntD), r = .returned (.tuple #[.int .i64 e, .int .i64 k]) ∧ WkSt T w vb fold space v V w' m' v' V' ∧ WkV fold (wayT fold S l) l V' m' d' ∧ d ≤ d' ∧ WorkE fold space l V' m d m' d' b e k

set_option maxHeartbeats 8000000 in
set_option maxRecDepth 100000 in
theorem vWorkG {T : TypeId} {w : World} {vb : Nat} {v sv lv : Value} {V S : List EntD} {l : List OpD} {fold : Bool} {space : Int} {m d0 : Nat} (hT : 54 ≠ T) (hk : Vk T w vb v fold space [.string (marksB m)]) (hvb : 2 ≤ vb) (hr : RowAt w v V) (hst : WkV fold (wayT fold S l) l V m d0) (h0 : 0 ≤ space) (h1 : space ≤ 9223372036854775807) (hs : RowAt w sv S) (hS : SmallL S) (hg : Gd w) (ho : OpRow w lv l) (hl : l.length ≤ 2000000) (hos : ∀ o ∈ l, o.small) {mn : List EntD × Int} (hX : tryP fold 9223372036854775807 S l = .ok mn) (b : Int) (hbl : -1000000000 ≤ b) (hb2 : b ≤ 9223372036854775807) :
    Calls Tryz.prog 26 #[.pointer (some ⟨vb, 0, none⟩), sv, lv, .int .i64 b] w fun r w' => WorkG T w vb fold space v V S l m d0 b r w' := by
  have c1 := hk.vol.c1
  have HC := hidD (vcourseW fold hs hS hg ho hl hos _ hX)
  unfold CrsW at HC
  obtain ⟨hl4, hok⟩ := try_ok hX
  have HOK := hidD hok
  have HK := hidD hk
  have HR := hidD hr
  have HG := hidD hg
  have HO := hidD ho
  have HOS := hidD hos
  have HI := hidD hst
  have hvlt := hk.lt
  obtain ⟨sa, sc, rfl⟩ := hs.val
  obtain ⟨la, lc, rfl⟩ := ho.val
  clear hs hS hg ho hos hr hk hX hok hst
  go_enter Tryz.func26, Tryz.ntmps26
  go_wp2_with (go_at_call 30; refine HC.out.mono ?_; clear HC; rintro r w1 ⟨g, cap, vs, rfl, hb1, hgg, hvl, hcell, hrows, hvok, hway⟩; have HCELL := hidD hcell; have HROWS := hidD hrows; have HVOK := hidD hvok; have HWAY := hidD hway; clear hcell hrows hvok hway)
  have HK1 := hidD (HK.out.below hb1 hvlt)
  have HR1 := hidD (HR.out.below hb1 (Nat.le_refl _))
  have HG1 := hidD (HG.out.below hb1)
  have HO1 := hidD (HO.out.below hb1 (Nat.le_refl _))
  have HB1 := hidD hb1
  have hvlt1 : vb < w1.heap.size := Nat.lt_of_lt_of_le hvlt hb1.size
  have hglt1 : g < w1.heap.size := by
    have := HCELL.out 0 (by omega)
    exact cell_lt this
  have hgne : g ≠ vb := by omega
  clear HR HG HO hb1
  have S0 := hidD (WkSt.start (V0 := V) HK1.out)
  have I0 := hidD (show WkV fold (wayT fold S l) l V m d0 ∧ d0 ≤ d0 ∧ muW l m d0 + b ≤ muW l m d0 + b from ⟨HI.out, Nat.le_refl _, Int.le_refl _⟩)
  have HFIN := hidD (fun (e k : Int) (m' d' : Nat) (v' : Value) (V' : List EntD) (w' : World) (hw : WkSt T w1 vb fold space v V w' m' v' V') (hv : WkV fold (wayT fold S l) l V' m' d') (hd : d0 ≤ d') (h2 : WorkE fold space l V' m d0 m' d' b e k) => show WorkG T w vb fold space v V S l m d0 b (.returned (.tuple #[.int .i64 e, .int .i64 k])) w' from ⟨e, k, m', d', v', V', rfl, hw.from_below HB1.out, hv, hd, h2⟩)
  clear HB1 HI
  have hb0 := hb2
  go_loopw [3] (fun bv wr => ∃ (b1 : Int) (m1 d1 : Nat) (v' : Value) (V' : List EntD), bv = .int .i64 b1 ∧ -1000000000 ≤ b1 ∧ b1 ≤ 9223372036854775807 ∧ Hid (WkSt T w1 vb fold space v V wr m1 v' V') ∧ Hid (WkV fold (wayT fold S l) l V' m1 d1 ∧ d0 ≤ d1 ∧ muW l m1 d1 + b ≤ muW l m d0 + b1)) (fun bv _ => (intOf bv).toNat)
  case atStart => exact ⟨b, m, d0, v, V, rfl, hbl, hb2, S0, I0⟩
  case round =>
    clear S0 I0 hb2 hbl HK
    obtain ⟨b1, m1, d, v', V', rfl, hbl, hb2, SS, I⟩ := hrel
    have hml := I.out.1.mle
    obtain ⟨hdl, hVd, _⟩ := I.out.1.here
    have hr' := SS.out.rowAt HK1.out HR1.out
    have HD := hidD (vdone SS.out.vk hr' (by have := I.out.1.vol.few; omega) hml hl hvl (Nat.lt_of_lt_of_le hglt1 SS.out.gr.size) (fun j h => SS.out.gr.cell (HCELL.out j h) (by simpa using hgne)) (cap := cap) (fun j h => (HROWS.out j h).grown HK1.out (by simp) SS.out.gr))
    have HR' := hidD hr'
    have HVd := hidD hVd
    clear hr' hVd
    by_cases hdl2 : d = l.length
    · subst hdl2
      have hdI : ((l.length : Int) == (l.length : Int)) = true := by simp
      go_wp2_with (go_at_call 41; refine HD.out.mono ?_; rintro r w2 ⟨d', rfl, hd', hb2'⟩; obtain rfl := I.out.1.done hd'; clear hd')
      go_ret2
      exact HFIN.out 0 l.length m1 l.length v' V' _ (SS.out.below hb2') I.out.1 I.out.2.1 (.inl ⟨rfl, rfl, rfl⟩)
    · have hlt : d < l.length := by omega
      have hdI : ((d : Int) == (l.length : Int)) = false := by simp; omega
      by_cases hbI : b1 ≤ 0
      · clear HR'
        go_wp2_with (go_at_call 41; refine HD.out.mono ?_; rintro r w2 ⟨d', rfl, hd', hb2'⟩; obtain rfl := I.out.1.done hd'; clear hd')
        go_ret2
        exact HFIN.out 17 0 m1 d v' V' _ (SS.out.below hb2') I.out.1 I.out.2.1 (.inr (.inl ⟨rfl, rfl, hlt, by have := I.out.2.2; omega⟩))
      · obtain ⟨b2, off2, rfl, _, hlb2, hops⟩ := op_parts (HO1.out.grown HK1.out (by simp) SS.out.gr) hlt
        have hok := HOK.out _ (List.getElem_mem hlt)
        have hsm := HOS.out _ (List.getElem_mem hlt)
        have hstep := HWAY.out d hlt
        rw [← HVd.out] at hstep
        have HST := hidD hstep
        have HOPS := hidD (hops d hlt)
        have IE := hidD (fun (h : doL fold space V' l[d] = .error 11) => (⟨hlt, h⟩ : ∃ h : d < l.length, doL fold space V' l[d] = .error 11))
        have hops' := HOPS.out
        have hlb3 : b2 < wr.heap.size := hlb2
        generalize l[d] = o at *
        clear hops hstep hops'
        rcases I.out.1.at_ with ⟨hdm, _⟩ | ⟨hdm, hne, _⟩
        · -- the mark
          subst hdm
          obtain ⟨d2, I2, hd2, hmu⟩ := I.out.1.mark hlt
          have I3 := hidD (show WkV fold (wayT fold S l) l V' (d + 1) d2 ∧ d0 ≤ d2 ∧ muW l (d + 1) d2 + b ≤ muW l m d0 + (b1 - 1) from ⟨I2, Nat.le_trans I.out.2.1 hd2, by have := I.out.2.2; omega⟩)
          clear I2 hmu IE HST HR'
          go_wp2_with (first | (go_at_call 41; refine HD.out.mono ?_; rintro r w2 ⟨d', rfl, hd', hb2'⟩; obtain rfl := I.out.1.done hd'; clear hd'; have k0 := cell_kept hb2' hlb3 (HOPS.out 0 _ rfl); have k1 := cell_kept hb2' hlb3 (HOPS.out 1 _ rfl); have k2 := cell_kept hb2' hlb3 (HOPS.out 2 _ rfl); have k3 := cell_kept hb2' hlb3 (HOPS.out 3 _ rfl); have k4 := cell_kept hb2' hlb3 (HOPS.out 4 _ rfl); have k5 := cell_kept hb2' hlb3 (HOPS.out 5 _ rfl); simp only [Nat.add_zero] at k0) | (go_at_call 42; refine (step_mark (SS.out.below hb2').vk d o (Nat.le_refl _) (by omega)).mono ?_; rintro r w3 ⟨rfl, hk3, hg3⟩))
          exact ⟨⟨b1 - 1, d + 1, d2, v', V', by first | rfl | go_num, by omega, by omega, hidD ((SS.out.below hb2').mark hT hk3 hg3), I3⟩, by simp [intOf]; omega⟩
        · have hdm' : d < m1 := by omega
          subst hdm
          have HDO := hidD (fun (u : World) (hu : Below wr.heap.size wr u) => step_do (SS.out.below hu).vk (HR'.out.below hu (Nat.le_refl _)) I.out.1.vol ((HG1.out.grown SS.out.gr hvb).below hu) o hok hsm h0 h1 d hdm' (by omega))
          clear HR' hne
          rcases do_two (space := space) HST.out with hd | ⟨hd, _⟩
          · obtain ⟨I2, hmu⟩ := I.out.1.did (HVOK.out _ (by omega))
            have I3 := hidD (show WkV fold (wayT fold S l) l (wayT fold S l (d + 1)) (d + 1) (d + 1) ∧ d0 ≤ d + 1 ∧ muW l (d + 1) (d + 1) + b ≤ muW l m d0 + (b1 - 1) from ⟨I2, Nat.le_trans I.out.2.1 (Nat.le_succ _), by have := I.out.2.2; omega⟩)
            rw [hd] at HDO
            unfold DoA at HDO
            clear hd IE HST I2 hmu
            generalize hM : wayT fold S l (d + 1) = M at *
            go_wp2_with (first | (go_at_call 41; refine HD.out.mono ?_; rintro r w2 ⟨d', rfl, hd', hb2'⟩; obtain rfl := I.out.1.done hd'; clear hd'; have k0 := cell_kept hb2' hlb3 (HOPS.out 0 _ rfl); have k1 := cell_kept hb2' hlb3 (HOPS.out 1 _ rfl); have k2 := cell_kept hb2' hlb3 (HOPS.out 2 _ rfl); have k3 := cell_kept hb2' hlb3 (HOPS.out 3 _ rfl); have k4 := cell_kept hb2' hlb3 (HOPS.out 4 _ rfl); have k5 := cell_kept hb2' hlb3 (HOPS.out 5 _ rfl); simp only [Nat.add_zero] at k0) | (go_at_call 42; refine (HDO.out _ hb2').mono ?_; rintro r w3 ⟨rfl, v3, hk3, ho3, hg3⟩))
            exact ⟨⟨b1 - 1, d + 1, d + 1, v3, M, by first | rfl | go_num, by omega, by omega, hidD ((SS.out.below hb2').did hk3 ho3 hg3), I3⟩, by simp [intOf]; omega⟩
          · have hF := IE.out hd
            have HF := hidD hF
            rw [hd] at HDO
            unfold DoA at HDO
            clear hd hF IE HST
            go_wp2_with (first | (go_at_call 41; refine HD.out.mono ?_; rintro r w2 ⟨d', rfl, hd', hb2'⟩; obtain rfl := I.out.1.done hd'; clear hd'; have k0 := cell_kept hb2' hlb3 (HOPS.out 0 _ rfl); have k1 := cell_kept hb2' hlb3 (HOPS.out 1 _ rfl); have k2 := cell_kept hb2' hlb3 (HOPS.out 2 _ rfl); have k3 := cell_kept hb2' hlb3 (HOPS.out 3 _ rfl); have k4 := cell_kept hb2' hlb3 (HOPS.out 4 _ rfl); have k5 := cell_kept hb2' hlb3 (HOPS.out 5 _ rfl); simp only [Nat.add_zero] at k0) | (go_at_call 42; refine (HDO.out _ hb2').mono ?_; rintro r w3 ⟨rfl, hb3⟩))
            go_ret2
            exact HFIN.out 11 d (d + 1) d v' V' _ ((SS.out.below hb2').below hb3) I.out.1 I.out.2.1 (.inr (.inr ⟨rfl, rfl, rfl, HF.out⟩))
end Go.Proofs.YtemkpollilhmjaaGreatDoor

/- Work at the face, with whatever budget. -/
namespace Go.Proofs.YtemkpollilhmjaaGreatDoor
open Go.RowKit
set_option linter.unusedVariables false
set_option linter.unusedSimpArgs false

/-- What stands in the boxes behind the work. -/
structure WkRG (w : World) (B vb : Nat) (fold : Bool) (space : Int) (v : Value) (V S : List EntD) (l : List OpD) (m d : Nat) (b : Int) (u : World) (e k : Int) (m' d' : Nat) (v' : Value) (V' : List EntD) : Prop where
  st : WkSt 64 w vb fold space v V u m' v' V'
  ok : WkV fold (wayT fold S l) l V' m' d'
  said : d ≤ d' ∧ WorkE fold space l V' m d m' d' b e k
  b4 : Boxed u (B + 4) 31 (.int .i64 e)
  b5 : Boxed u (B + 5) 3 (.int .i64 k)
  b6 : Boxed u (B + 6) 31 (.int .i64 0)
  b7 : Boxed u (B + 7) 3 (.int .i64 0)

set_option maxHeartbeats 4000000 in
set_option maxRecDepth 100000 in
theorem cWorkG {w : World} {vb : Nat} {v sv lv : Value} {V S : List EntD} {l : List OpD} {fold : Bool} {space : Int} {m d0 : Nat} (hk : Vk 64 w vb v fold space [.string (marksB m)]) (hvb : 2 ≤ vb) (hr : RowAt w v V) (hst : WkV fold (wayT fold S l) l V m d0) (h0 : 0 ≤ space) (h1 : space ≤ 9223372036854775807) (hs : RowAt w sv S) (hS : SmallL S) (hg : Gd w) (ho : OpRow w lv l) (hl : l.length ≤ 2000000) (hos : ∀ o ∈ l, o.small) {mn : List EntD × Int} (hX : tryP fold 9223372036854775807 S l = .ok mn) (b : Int) (hbl : -1000000000 ≤ b) (hb2 : b ≤ 9223372036854775807) :
    Calls Tryz.prog 16 #[.pointer (some ⟨vb, 0, none⟩), sv, lv, .int .i64 b] w fun r w' => WorkG 64 w vb fold space v V S l m d0 b r w' := by
  have hlt := hk.lt
  have X8 := Bx8.of w vb sv lv b
  have HW : ∀ u', Below (wk8 w vb sv lv b).heap.size (wk8 w vb sv lv b) u' → Calls Tryz.prog 26 #[.pointer (some ⟨vb, 0, none⟩), sv, lv, .int .i64 b] u' fun r w' => ∃ e k : Int, r = .returned (.tuple #[.int .i64 e, .int .i64 k]) ∧ Boxed w' w.heap.size 46 (.pointer (some ⟨vb, 0, none⟩)) ∧ Boxed w' (w.heap.size + 1) 22 sv ∧ Boxed w' (w.heap.size + 2) 23 lv ∧ Boxed w' (w.heap.size + 3) 3 (.int .i64 b) ∧ Boxed w' (w.heap.size + 4) 31 (.int .i64 0) ∧ Boxed w' (w.heap.size + 5) 3 (.int .i64 0) ∧ (Boxed w' (w.heap.size + 6) 31 (.int .i64 0) ∧ Boxed w' (w.heap.size + 7) 3 (.int .i64 0) ∧ ∃ m' d' v' V', WkSt 64 w vb fold space v V w' m' v' V' ∧ WkV fold (wayT fold S l) l V' m' d' ∧ (d0 ≤ d' ∧ WorkE fold space l V' m d0 m' d' b e k)) := by
    intro u' hu
    have hbw : Below w.heap.size w u' := X8.bel.trans (hu.mono X8.bel.size)
    refine (vWorkG (by decide) (hk.below hbw hlt) hvb (hr.below hbw (Nat.le_refl _)) hst h0 h1 (hs.below hbw (Nat.le_refl _)) hS (hg.below hbw) (ho.below hbw (Nat.le_refl _)) hl hos hX b hbl hb2).mono ?_
    rintro r w' ⟨e, k, m', d', v', V', rfl, st, ok, hdd, fin⟩
    have kp : ∀ {B : Nat} {t : TypeId} {x : Value}, Boxed (wk8 w vb sv lv b) B t x → w.heap.size ≤ B → Boxed w' B t x := fun h hB => (boxed_belowW h hu).kept st.gr (by simp; omega)
    exact ⟨e, k, rfl, kp X8.b0 (by omega), kp X8.b1 (by omega), kp X8.b2 (by omega), kp X8.b3 (by omega), kp X8.b4 (by omega), kp X8.b5 (by omega), kp X8.b6 (by omega), kp X8.b7 (by omega), m', d', v', V', st.from_below hbw, ok, hdd, fin⟩
  have H44 := work1 (fun e k w' => Boxed w' (w.heap.size + 6) 31 (.int .i64 0) ∧ Boxed w' (w.heap.size + 7) 3 (.int .i64 0) ∧ ∃ m' d' v' V', WkSt 64 w vb fold space v V w' m' v' V' ∧ WkV fold (wayT fold S l) l V' m' d' ∧ (d0 ≤ d' ∧ WorkE fold space l V' m d0 m' d' b e k)) X8.b0 X8.b1 X8.b2 X8.b3 X8.b4 X8.b5 (by obtain ⟨a, c, e⟩ := hs.val; exact ⟨_, _, _, e⟩) (by obtain ⟨a, c, e⟩ := ho.val; exact ⟨_, _, _, e⟩) HW
  have h6 : (wk6 w vb sv lv b).heap.size = w.heap.size + 6 := by simp
  have HC := caughtW_ok ⟨w.heap.size, 0, none⟩ ⟨w.heap.size + 1, 0, none⟩ ⟨w.heap.size + 2, 0, none⟩ ⟨w.heap.size + 3, 0, none⟩ ⟨w.heap.size + 4, 0, none⟩ ⟨w.heap.size + 5, 0, none⟩ (wk6 w vb sv lv b) (fun u => ∃ e k m' d' v' V', WkRG w w.heap.size vb fold space v V S l m d0 b u e k m' d' v' V') (H44.mono (by
    rintro r w' ⟨rfl, e, k, w1, ⟨d6, d7, m', d', v', V', st, ok, said⟩, d4, d5, rfl⟩
    rw [h6]
    have g4 := gb_setW w1 (w.heap.size + 4) (.int .i64 e)
    have g5 := gb_setW (w1.setCell ⟨w.heap.size + 4, 0, none⟩ (.int .i64 e)) (w.heap.size + 5) (.int .i64 k)
    have b6 := (d6.kept g4 (by simp)).kept g5 (by simp)
    have b7 := (d7.kept g4 (by simp)).kept g5 (by simp)
    have b5 := d5.kept g4 (by simp)
    exact ⟨rfl, b6, b7, e, k, m', d', v', V', (st.box hlt d4 (by decide) (by omega) _).box hlt b5 (by decide) (by omega) _, ok, said, (d4.set _).kept g5 (by simp), b5.set _, b6, b7⟩)) (by
    rintro u ⟨e, k, m', d', v', V', R⟩
    rw [h6]
    have g6 := gb_setW u (w.heap.size + 6) (.int .i64 0)
    have g7 := gb_setW (u.setCell ⟨w.heap.size + 6, 0, none⟩ (.int .i64 0)) (w.heap.size + 6 + 1) (.int .i64 0)
    have b7 := R.b7.kept g6 (by simp)
    exact ⟨e, k, m', d', v', V', (R.st.box hlt R.b6 (by decide) (by omega) _).box hlt b7 (by decide) (by omega) _, R.ok, R.said, (R.b4.kept g6 (by simp)).kept g7 (by simp), (R.b5.kept g6 (by simp)).kept g7 (by simp), (R.b6.set _).kept g7 (by simp), b7.set _⟩)
  have HCC := hidD HC
  obtain ⟨sa, sc, rfl⟩ := hs.val
  obtain ⟨la, lc, rfl⟩ := ho.val
  clear HC H44 HW X8 hk hr hst hs hS hg ho hos h6 hX
  have hmf : ∀ (fn : Fn) (first cap : Array Value) (w : World), (Instr.makeFunc fn first cap).run Tryz.prog w = .ok (.func fn first cap) w := fun _ _ _ _ => rfl
  go_enter Tryz.func16, Tryz.ntmps16
  go_wp2_with (go_at_call 24; refine HCC.out.mono ?_; rintro r w1 ⟨rfl, e, k, m', d', v', V', R⟩; have k4 := R.b4.cell; have k5 := R.b5.cell)
  go_quiet (fail)
  go_wp2
  go_ret2
  exact ⟨e, k, m', d', v', V', rfl, R.st.below (below_drewE _ _), R.ok, R.said.1, R.said.2⟩
end Go.Proofs.YtemkpollilhmjaaGreatDoor

/- The program's Check of what a volume holds. -/
namespace Go.Proofs.YtemkpollilhmjaaGreatDoor
open Go.RowKit
set_option linter.unusedVariables false
set_option linter.unusedSimpArgs false

theorem entErrF_any (fold : Bool) (b off cap : Nat) (l : List EntD) (i : Nat) (e : EntD) (w : World) (hi : i < l.length) (hx : l[i] = e) (hl : l.length ≤ 2000000) (hcap : l.length ≤ cap) (hs : ∀ o ∈ l, o.small) (hb : b < w.heap.size) (hc : EntsAt w b off l) :
    Calls Tryz.prog 77 #[.slice (some ⟨b, off, none⟩) l.length cap, .int .i64 i, .bool fold] w fun r w' => r = .returned (.int .i64 (entErr l i e fold)) ∧ Below w.heap.size w w' := by
  cases fold
  · exact entryError_any b off cap l i e w hi hx hl hcap hs hb hc
  · exact entErrT_any b off cap l i e w hi hx hl hcap hs hb hc

def chkAtH (fold : Bool) (l : List EntD) (i : Nat) (e : EntD) : Int := if holdB e = false then 1 else entErr l i e fold
def chkGoH (fold : Bool) (l : List EntD) : List EntD → Nat → Int × Int
  | [], _ => (0, 0)
  | e :: t, i => if chkAtH fold l i e = 0 then chkGoH fold l t (i + 1) else (chkAtH fold l i e, i)
def chkPH (fold : Bool) (l : List EntD) : Int × Int := if 120 < l.length then (5, 0) else chkGoH fold l l 0
theorem chkGoH_at (fold : Bool) (l : List EntD) (k : Nat) (h : k < l.length) : chkGoH fold l (l.drop k) k = if chkAtH fold l k l[k] = 0 then chkGoH fold l (l.drop (k + 1)) (k + 1) else (chkAtH fold l k l[k], (k : Int)) := by
  rw [List.drop_eq_getElem_cons h, chkGoH]

set_option maxHeartbeats 2000000 in
theorem checkH_any (fold : Bool) (b off cap : Nat) (l : List EntD) (w : World) (hl : l.length ≤ 2000000) (hcap : l.length ≤ cap) (hs : ∀ o ∈ l, o.small) (hb : b < w.heap.size) (hc : EntsAt w b off l) :
    Calls Tryz.prog 51 #[.slice (some ⟨b, off, none⟩) l.length cap, .bool fold, .int .i64 120, .func (.func 52) #[] #[]] w fun e w' => e = .returned (.tuple #[.int .i64 (chkPH fold l).1, .int .i64 (chkPH fold l).2]) ∧ Below w.heap.size w w' := by
  by_cases h6 : (120 : Int) < l.length
  · have hv : chkPH fold l = (5, 0) := by rw [chkPH, if_pos (by omega)]
    rw [hv]
    go_enter Tryz.func51, Tryz.ntmps51
    go_wp2
    go_ret2
    exact ⟨rfl, Below.refl _ _⟩
  · have hv : chkPH fold l = chkGoH fold l l 0 := by rw [chkPH, if_neg (by omega)]
    rw [hv]
    go_enter Tryz.func51, Tryz.ntmps51
    go_wp2
    go_loopw [18] (fun i wr => ∃ k : Nat, k ≤ l.length ∧ i = .int .i64 k ∧ chkGoH fold l l 0 = chkGoH fold l (l.drop k) k ∧ Below w.heap.size w wr) (fun i _ => l.length - (intOf i).toNat)
    case atStart => exact ⟨0, Nat.zero_le _, rfl, rfl, Below.refl _ _⟩
    case round =>
      obtain ⟨k, hk, rfl, hd, hbw⟩ := hrel
      have HD : Hid (chkGoH fold l l 0 = chkGoH fold l (l.drop k) k) := hd
      clear hd
      have hbs := hbw.size
      by_cases hlt : k < l.length
      · have HSN := chkGoH_at fold l k hlt
        have hcw := (hc.below hbw hb) k hlt
        have hsm := hs _ (List.getElem_mem hlt)
        generalize hx : l[k] = o at *
        have HS : Hid (chkGoH fold l (l.drop k) k = if chkAtH fold l k o = 0 then chkGoH fold l (l.drop (k + 1)) (k + 1) else (chkAtH fold l k o, (k : Int))) := HSN
        clear HSN
        have c0 := hcw 0 _ rfl
        have c1 := hcw 1 _ rfl
        have c2 := hcw 2 _ rfl
        have c3 := hcw 3 _ rfl
        have c4 := hcw 4 _ rfl
        simp only [Nat.add_zero] at c0
        clear hcw
        by_cases hn : holdB o = true
        · have hA : chkAtH fold l k o = entErr l k o fold := by rw [chkAtH, hn, if_neg (by simp)]
          by_cases he : entErr l k o fold = 0
          · go_wp2_with (first | (go_at_call 52; refine (mayHold_any o _ hsm).mono ?_; rintro e w1 ⟨rfl, hb1⟩; rw [hn]) | (go_at_call 77; refine (entErrF_any fold b off cap l k o _ hlt hx hl hcap hs (by have := hb1.size; omega) (hc.below (hbw.trans (hb1.mono hbs)) hb)).mono ?_; rintro e w2 ⟨rfl, hb2⟩; rw [he]))
            have hb3 := (hbw.trans (hb1.mono hbs)).trans (hb2.mono (by have := hb1.size; omega))
            exact ⟨⟨k + 1, by omega, by go_num, by rw [HD.out, HS.out, hA, if_pos he], hb3⟩, by simp [intOf]; omega⟩
          · have he' : (entErr l k o fold != 0) = true := by simpa using he
            go_wp2_with (first | (go_at_call 52; refine (mayHold_any o _ hsm).mono ?_; rintro e w1 ⟨rfl, hb1⟩; rw [hn]) | (go_at_call 77; refine (entErrF_any fold b off cap l k o _ hlt hx hl hcap hs (by have := hb1.size; omega) (hc.below (hbw.trans (hb1.mono hbs)) hb)).mono ?_; rintro e w2 ⟨rfl, hb2⟩))
            go_ret2
            have hb3 := (hbw.trans (hb1.mono hbs)).trans (hb2.mono (by have := hb1.size; omega))
            refine ⟨?_, hb3⟩
            rw [HD.out, HS.out, hA, if_neg he]; rfl
        · simp only [Bool.not_eq_true] at hn
          have hA : chkAtH fold l k o = 1 := by rw [chkAtH, if_pos hn]
          go_wp2_with (go_at_call 52; refine (mayHold_any o _ hsm).mono ?_; rintro e w1 ⟨rfl, hb1⟩; rw [hn])
          go_ret2
          refine ⟨?_, hbw.trans (hb1.mono hbs)⟩
          rw [HD.out, HS.out, hA, if_neg (by omega)]; rfl
      · go_wp2
        go_ret2
        refine ⟨?_, hbw⟩
        rw [HD.out, List.drop_of_length_le (by omega), chkGoH]; rfl

set_option maxHeartbeats 1000000 in
theorem checkH_nil (fold : Bool) (w : World) :
    Calls Tryz.prog 51 #[.slice none 0 0, .bool fold, .int .i64 120, .func (.func 52) #[] #[]] w fun e w' => e = .returned (.tuple #[.int .i64 0, .int .i64 0]) ∧ w' = w := by
  go_enter Tryz.func51, Tryz.ntmps51
  go_wp2
  refine wp_loop_rounds 1 ?_
  rw [rounds_succ]
  go_wp2
  go_ret2
  exact ⟨rfl, rfl⟩

/-- May a volume hold it? -/
def heldF (fold : Bool) (l : List EntD) : Bool := (chkPH fold l).1 == 0
set_option maxHeartbeats 1000000 in
theorem checkHeld_of {w : World} {v : Value} {fold : Bool} {c k : Int} (H : Calls Tryz.prog 51 #[v, .bool fold, .int .i64 120, .func (.func 52) #[] #[]] w fun e w' => e = .returned (.tuple #[.int .i64 c, .int .i64 k]) ∧ Below w.heap.size w w') :
    Calls Tryz.prog 37 #[v, .bool fold] w fun e w' => e = .returned (.tuple #[.int .i64 c, .int .i64 k]) ∧ Below w.heap.size w w' := by
  have HH := hidD H
  clear H
  go_enter Tryz.func37, Tryz.ntmps37
  go_wp2_with (go_at_call 51; refine HH.out.mono ?_; rintro e w1 ⟨rfl, hb1⟩)
  go_ret2
  exact ⟨rfl, hb1⟩
theorem checkHeldF {w : World} {v : Value} {L : List EntD} (fold : Bool) (hr : RowAt w v L) (hs : SmallL L) :
    Calls Tryz.prog 37 #[v, .bool fold] w fun e w' => ∃ c k : Int, e = .returned (.tuple #[.int .i64 c, .int .i64 k]) ∧ (c == 0) = heldF fold L ∧ Below w.heap.size w w' := by
  cases hr with
  | nil => exact (checkHeld_of ((checkH_nil fold w).mono (by rintro e w' ⟨rfl, rfl⟩; exact ⟨rfl, Below.refl _ _⟩))).mono (by rintro e w' ⟨rfl, hb⟩; exact ⟨_, _, rfl, rfl, hb⟩)
  | row b off cap l hlb hc hm h => exact (checkHeld_of (checkH_any fold b off cap L w hs.1 hc hs.2 hlb h)).mono (by rintro e w' ⟨rfl, hb⟩; exact ⟨_, _, rfl, rfl, hb⟩)
end Go.Proofs.YtemkpollilhmjaaGreatDoor

/- The program and the reference let a volume hold the same lists. No program in this text. -/
namespace Go.Proofs.YtemkpollilhmjaaGreatDoor
open Go.RowKit
set_option linter.unusedVariables false
set_option linter.unusedSimpArgs false

/-- What both looks ask, the name and folding aside. -/
def RefCore (l : List EntD) (i : Nat) (e : EntD) : Prop :=
  fieldsB e = true ∧ (0 < i → cmpL ((l[i - 1]?.map (·.path.data.toList)).getD []) e.path.data.toList < 0) ∧ upB (l.take i) (parentB e.path) = true ∧ twiceB (l.take i) e = false ∧ sizeB (l.take i) e = false

theorem chk_core (l : List EntD) (A : ∀ (k : Nat) (h : k < l.length), entErr l k l[k] false = 0) : ∀ (k : Nat) (h : k < l.length), RefCore l k l[k] := by
  have ord := order_of_steps l (fun i hi => by
    have := ((entErr_zero _ _ _).1 (A (i + 1) hi)).2.1 (by omega)
    rw [prev_at l i hi] at this
    exact (cmpL_key _ _).1.1 this)
  intro k hk
  have he := A k hk
  obtain ⟨hf, ho, hpar, hoth⟩ := (entErr_zero _ _ _).1 he
  refine ⟨hf, ho, ?_, ?_, ?_⟩
  · unfold hasParB at hpar
    unfold upB
    rw [parentB_eq]
    rw [par_toList, parentB_eq] at hpar
    by_cases h0 : parentL l[k].path.data.toList = []
    · rw [h0]; simp
    · rw [if_neg (by simpa using h0)] at hpar
      cases hfd : l.find? (fun o => sameB false o.path.data.toList (parentL l[k].path.data.toList)) with
      | none => rw [hfd] at hpar; cases hpar
      | some o =>
        rw [hfd] at hpar
        obtain ⟨hpr, j, hj, hjo, _⟩ := List.find?_eq_some_iff_getElem.1 hfd
        have hpe : o.path.data.toList = parentL l[k].path.data.toList := by simpa [sameB] using hpr
        have hlt := parentL_lt _ h0
        have hjk : j < k := by
          rcases Nat.lt_trichotomy j k with h1 | h1 | h1
          · exact h1
          · exfalso
            subst h1
            rw [hjo] at hlt
            rw [hjo] at hpe
            rw [← hpe] at hlt
            exact List.lt_irrefl _ hlt
          · exfalso
            have := ord k j hk hj h1
            rw [hjo, hpe] at this
            exact List.lt_irrefl _ (List.lt_trans this hlt)
        rw [Bool.or_eq_true, List.any_eq_true]
        exact .inr ⟨o, hjo ▸ mem_take l k j hj hjk, by simp [hpar, hpe]⟩
  · cases ht : twiceB (l.take k) l[k] with
    | false => rfl
    | true =>
      exfalso
      unfold twiceB at ht
      obtain ⟨o, ho, hp⟩ := List.any_eq_true.1 ht
      obtain ⟨j, hj, hjk, hjo⟩ := of_mem_take l k o ho
      have := ord j k hj hk hjk
      rw [hjo, eq_of_beq hp] at this
      exact List.lt_irrefl _ this
  · cases ht : sizeB (l.take k) l[k] with
    | false => rfl
    | true =>
      exfalso
      unfold sizeB at ht
      obtain ⟨o, ho, hp⟩ := List.any_eq_true.1 ht
      have : otherB (l.take k) l[k] = true := by
        unfold otherB
        rw [List.any_eq_true]
        refine ⟨o, ho, ?_⟩
        simp only [Bool.and_eq_true] at hp
        simp only [Bool.and_eq_true]
        exact ⟨hp.1.2, hp.2⟩
      rw [hoth] at this; cases this

theorem core_chk (l : List EntD) (A : ∀ (k : Nat) (h : k < l.length), RefCore l k l[k]) : ∀ (k : Nat) (h : k < l.length), entErr l k l[k] false = 0 := by
  have ord := order_of_steps l (fun i hi => by
    have := (A (i + 1) hi).2.1 (by omega)
    rw [prev_at l i hi] at this
    exact (cmpL_key _ _).1.1 this)
  intro k hk
  obtain ⟨hf, ho, hup, htw, hsz⟩ := A k hk
  refine (entErr_zero _ _ _).2 ⟨hf, ho, ?_, ?_⟩
  · unfold hasParB
    unfold upB at hup
    rw [par_toList, parentB_eq]
    rw [parentB_eq] at hup
    by_cases h0 : parentL l[k].path.data.toList = []
    · rw [h0]; simp
    · rw [if_neg (by simpa using h0)]
      rw [Bool.or_eq_true, List.any_eq_true] at hup
      rcases hup with hup | ⟨o, ho1, ho2⟩
      · exact absurd (eq_of_beq hup) h0
      · obtain ⟨j, hj, hjk, hjo⟩ := of_mem_take l k o ho1
        rw [Bool.and_eq_true] at ho2
        have hpe := eq_of_beq ho2.2
        cases hfd : l.find? (fun o => sameB false o.path.data.toList (parentL l[k].path.data.toList)) with
        | none =>
          rw [List.find?_eq_none] at hfd
          exact absurd (by simpa [sameB] using hpe) (hfd o (hjo ▸ List.getElem_mem hj))
        | some o' =>
          obtain ⟨hpr, j', hj', hjo', _⟩ := List.find?_eq_some_iff_getElem.1 hfd
          have hpe' : o'.path.data.toList = parentL l[k].path.data.toList := by simpa [sameB] using hpr
          have : j = j' := by
            rcases Nat.lt_trichotomy j j' with h1 | h1 | h1
            · have := ord j j' hj hj' h1
              rw [hjo, hjo', hpe, hpe'] at this
              exact absurd this (List.lt_irrefl _)
            · exact h1
            · have := ord j' j hj' hj h1
              rw [hjo, hjo', hpe, hpe'] at this
              exact absurd this (List.lt_irrefl _)
          subst this
          have : o = o' := hjo.symm.trans hjo'
          subst this
          exact ho2.1
  · cases ht : otherB (l.take k) l[k] with
    | false => rfl
    | true =>
      exfalso
      unfold otherB at ht
      obtain ⟨o, ho, hp⟩ := List.any_eq_true.1 ht
      obtain ⟨j, hj, hjk, hjo⟩ := of_mem_take l k o ho
      have hfo := (A j hj).1
      rw [hjo] at hfo
      obtain ⟨_, _, f1⟩ := fieldsB_true _ hf
      obtain ⟨_, _, f2⟩ := fieldsB_true _ hfo
      simp only [Bool.and_eq_true, decide_eq_true_eq] at hp
      rcases f1 with ⟨d1, i1, z1⟩ | ⟨d1, i1, i2, z1, z2⟩
      · rcases f2 with ⟨d2, i3, z3⟩ | ⟨d2, i3, i4, z3, z4⟩
        · exact hp.2 (by omega)
        · omega
      · rcases f2 with ⟨d2, i3, z3⟩ | ⟨d2, i3, i4, z3, z4⟩
        · omega
        · have : sizeB (l.take k) l[k] = true := by
            unfold sizeB
            rw [List.any_eq_true]
            exact ⟨o, ho, by simp [d1, d2, hp.1]; exact hp.2⟩
          rw [hsz] at this; cases this

theorem twiceF_true (l : List EntD) (e : EntD) : twiceF true l e = twiceT l e := rfl
theorem twiceF_of (fold : Bool) (l : List EntD) (e : EntD) (h : twiceF fold l e = false) : twiceB l e = false := by
  unfold twiceF at h
  unfold twiceB
  rw [List.any_eq_false] at *
  intro x hx hp
  apply h x hx
  rw [eq_of_beq hp]
  exact (sameB_iff _ _ _).2 rfl
theorem twiceF_false (l : List EntD) (e : EntD) (h : twiceB l e = false) : twiceF false l e = false := by
  unfold twiceB at h
  unfold twiceF
  rw [List.any_eq_false] at *
  intro x hx hp
  apply h x hx
  simpa [sameB] using hp
theorem entErrF_zero (fold : Bool) (l : List EntD) (i : Nat) (e : EntD) : entErr l i e fold = 0 ↔ entErr l i e false = 0 ∧ (fold = true → twiceF true (l.take i) e = false) := by
  cases fold
  · exact ⟨fun h => ⟨h, fun x => by cases x⟩, fun h => h.1⟩
  · rw [entErrT_zero]; exact ⟨fun h => ⟨h.1, fun _ => h.2⟩, fun h => ⟨h.1, h.2 rfl⟩⟩
theorem refErH_zero (fold : Bool) (l : List EntD) (i : Nat) (e : EntD) : refErH fold l i e = 0 ↔ holdB e = true ∧ RefCore l i e ∧ twiceF fold (l.take i) e = false := by
  unfold refErH RefCore
  rw [less_cmp]
  by_cases h0 : holdB e = true
  · rw [h0, if_neg (by simp)]
    by_cases h1 : fieldsB e = true
    · rw [h1, if_neg (by simp)]
      by_cases h2 : 0 < i ∧ decide (cmpL ((l[i - 1]?.map (·.path.data.toList)).getD []) e.path.data.toList < 0) = false
      · rw [if_pos h2]
        constructor
        · intro h; omega
        · rintro ⟨_, ⟨_, h, _⟩, _⟩; have := h h2.1; have h3 := h2.2; simp at h3; omega
      · rw [if_neg h2]
        have h2' : 0 < i → cmpL ((l[i - 1]?.map (·.path.data.toList)).getD []) e.path.data.toList < 0 := fun h => by
          by_cases hx : cmpL ((l[i - 1]?.map (·.path.data.toList)).getD []) e.path.data.toList < 0
          · exact hx
          · exact absurd ⟨h, by simpa using hx⟩ h2
        by_cases h3 : upB (l.take i) (parentB e.path) = true
        · rw [h3, if_neg (by simp)]
          by_cases h4 : twiceF fold (l.take i) e = true
          · rw [if_pos h4]; simp [h4]
          · rw [if_neg h4]
            simp only [Bool.not_eq_true] at h4
            have h4' := twiceF_of _ _ _ h4
            by_cases h5 : sizeB (l.take i) e = true
            · rw [if_pos h5]; simp [h5]
            · rw [if_neg h5]; simp only [Bool.not_eq_true] at h5; simp [h4, h4', h5]; exact h2'
        · simp only [Bool.not_eq_true] at h3
          rw [if_pos h3]; simp [h3]
    · simp only [Bool.not_eq_true] at h1
      rw [if_pos h1]; simp [h1]
  · simp only [Bool.not_eq_true] at h0
    rw [if_pos h0]; simp [h0]
theorem chkAtH_zero (fold : Bool) (l : List EntD) (i : Nat) (e : EntD) : chkAtH fold l i e = 0 ↔ holdB e = true ∧ entErr l i e fold = 0 := by
  unfold chkAtH
  cases holdB e
  · simp
  · simp
theorem chkGoH_zero (fold : Bool) (l : List EntD) : ∀ (t : List EntD) (i : Nat), ((chkGoH fold l t i).1 = 0 ↔ ∀ (k : Nat) (h : k < t.length), chkAtH fold l (i + k) t[k] = 0) := by
  intro t
  induction t with
  | nil => intro i; simp [chkGoH]
  | cons e t ih =>
    intro i
    rw [chkGoH]
    split
    · next h0 =>
      rw [ih]
      constructor
      · intro h k hk
        cases k with
        | zero => exact h0
        | succ k => have := h k (by simpa using hk); rw [show i + (k + 1) = i + 1 + k by omega]; exact this
      · intro h k hk
        have := h (k + 1) (by simpa using hk)
        rw [show i + 1 + k = i + (k + 1) by omega]; exact this
    · next h0 =>
      constructor
      · intro h; exact absurd h h0
      · intro h; exact absurd (h 0 (by simp)) h0

theorem held_iff (fold : Bool) (l : List EntD) : heldF fold l = true ↔ l.length ≤ 120 ∧ ∀ (k : Nat) (hk : k < l.length), holdB l[k] = true ∧ RefCore l k l[k] ∧ twiceF fold (l.take k) l[k] = false := by
  unfold heldF chkPH
  rw [beq_iff_eq]
  by_cases h6 : 120 < l.length
  · rw [if_pos h6]
    exact ⟨fun h => absurd h (by decide), fun h => by omega⟩
  · rw [if_neg h6, chkGoH_zero]
    simp only [Nat.zero_add]
    constructor
    · intro h
      have E : ∀ (k : Nat) (hk : k < l.length), entErr l k l[k] false = 0 ∧ (fold = true → twiceF true (l.take k) l[k] = false) := fun k hk => (entErrF_zero _ _ _ _).1 ((chkAtH_zero _ _ _ _).1 (h k hk)).2
      have C := chk_core l (fun k hk => (E k hk).1)
      refine ⟨by omega, fun k hk => ⟨((chkAtH_zero _ _ _ _).1 (h k hk)).1, C k hk, ?_⟩⟩
      cases fold
      · exact twiceF_false _ _ (C k hk).2.2.2.1
      · exact (E k hk).2 rfl
    · rintro ⟨_, h⟩ k hk
      exact (chkAtH_zero _ _ _ _).2 ⟨(h k hk).1, (entErrF_zero _ _ _ _).2 ⟨core_chk l (fun k hk => (h k hk).2.1) k hk, by rintro rfl; exact (h k hk).2.2⟩⟩

theorem held_vol {fold : Bool} {l : List EntD} (h : heldF fold l = true) : VolOk fold l := by
  obtain ⟨h6, A⟩ := (held_iff fold l).1 h
  have S : Srt l := srt_of_order (order_of_steps l (fun i hi => by
    have := (A (i + 1) hi).2.1.2.1 (by omega)
    rw [prev_at l i hi] at this
    exact (cmpL_key _ _).1.1 this))
  refine ⟨S, by omega, ?_, ?_, ?_, ?_, ?_⟩
  · intro o ho
    obtain ⟨k, hk, rfl⟩ := List.mem_iff_getElem.1 ho
    have hh := (A k hk).1
    unfold holdB at hh
    simpa using hh
  · intro o ho
    obtain ⟨k, hk, rfl⟩ := List.mem_iff_getElem.1 ho
    exact (A k hk).2.1.1
  · intro o ho hne
    obtain ⟨k, hk, rfl⟩ := List.mem_iff_getElem.1 ho
    have hu := (A k hk).2.1.2.2.1
    unfold upB at hu
    rw [parentB_eq, Bool.or_eq_true, List.any_eq_true] at hu
    rcases hu with hu | ⟨x, hx, hp⟩
    · exact absurd (eq_of_beq hu) hne
    · rw [Bool.and_eq_true] at hp
      exact ⟨x, List.mem_of_mem_take hx, hp.1, eq_of_beq hp.2⟩
  · have key : ∀ (i j : Nat) (hi : i < l.length) (hj : j < l.length), i < j → sameB fold l[i].pl l[j].pl = true → False := by
      intro i j hi hj hij hs
      have ht := (A j hj).2.2
      unfold twiceF at ht
      rw [List.any_eq_false] at ht
      exact ht _ (mem_take l j i hi hij) hs
    intro a ha b hb hs
    obtain ⟨i, hi, rfl⟩ := List.mem_iff_getElem.1 ha
    obtain ⟨j, hj, rfl⟩ := List.mem_iff_getElem.1 hb
    rcases Nat.lt_trichotomy i j with hij | hij | hij
    · exact absurd hs (fun h => key i j hi hj hij h)
    · subst hij; rfl
    · exact absurd hs (fun h => key j i hj hi hij (by
        have : ∀ a b : List UInt8, sameB fold a b = true → sameB fold b a = true := fun a b h => sameB_symm h
        exact this _ _ h))
  · have key : ∀ (i j : Nat) (hi : i < l.length) (hj : j < l.length), i < j → l[i].dir = false → l[j].dir = false → l[i].id = l[j].id → l[i].size = l[j].size := by
      intro i j hi hj hij d1 d2 hid
      have hz := (A j hj).2.1.2.2.2.2
      unfold sizeB at hz
      rw [List.any_eq_false] at hz
      have := hz _ (mem_take l j i hi hij)
      simp [d1, d2, hid] at this
      exact this
    intro a ha b hb d1 d2 hid
    obtain ⟨i, hi, rfl⟩ := List.mem_iff_getElem.1 ha
    obtain ⟨j, hj, rfl⟩ := List.mem_iff_getElem.1 hb
    rcases Nat.lt_trichotomy i j with hij | hij | hij
    · exact key i j hi hj hij d1 d2 hid
    · subst hij; rfl
    · exact (key j i hj hi hij d2 d1 hid.symm).symm
end Go.Proofs.YtemkpollilhmjaaGreatDoor

/- Mount: the program's and the document's. -/
namespace Go.Proofs.YtemkpollilhmjaaGreatDoor
open Go.RowKit
set_option linter.unusedVariables false
set_option linter.unusedSimpArgs false

theorem set_self (xs : List Value) (j : Nat) (v : Value) (h : xs[j]? = some v) : xs.set j v = xs := by
  obtain ⟨hj, rfl⟩ := List.getElem?_eq_some_iff.1 h
  exact List.set_getElem_self hj

set_option maxHeartbeats 4000000 in
set_option maxRecDepth 100000 in
theorem vcopied {w : World} {v : Value} {L : List EntD} (hr : RowAt w v L) (hl : L.length ≤ 1000) (hs : ∀ o ∈ L, o.small) :
    Calls Tryz.prog 38 #[v] w fun e w' => ∃ v', e = .returned v' ∧ w'.ownsRow w.heap.size 54 5 v' L.length (flatE L) ∧ Below w.heap.size w w' := by
  have HC := hidD (vclone hr hl)
  obtain ⟨a, c, rfl⟩ := hr.val
  have HS := hidD hs
  clear hr hs
  go_enter Tryz.func38, Tryz.ntmps38
  go_wp2_with (go_at_call 32; refine HC.out.mono ?_; rintro r w1 ⟨v1, rfl, hown1, hb1⟩; obtain ⟨a4, q4, hv4⟩ := (RowAt.ofOwn hown1).val; subst hv4)
  have HO1 := hidD hown1
  have HB1 := hidD hb1
  clear hown1 hb1
  go_loopw [9] (fun i wr => ∃ k : Nat, k ≤ L.length ∧ i = .int .i64 k ∧ Hid (wr.ownsRow w.heap.size 54 5 (.slice a4 L.length q4) L.length (flatE L)) ∧ Hid (Below w.heap.size w wr)) (fun i _ => L.length - (intOf i).toNat)
  case atStart => exact ⟨0, Nat.zero_le _, rfl, HO1, HB1⟩
  case round =>
    clear HO1 HB1
    obtain ⟨k, hk, rfl, HO, HB⟩ := hrel
    by_cases hlt : k < L.length
    · have hso : L[k].path.size ≤ 1500000 := HS.out _ (List.getElem_mem hlt)
      obtain ⟨g, c1, hv⟩ := own_some HO.out (by omega)
      cases hv
      have HC0 : Hid ((flatE L)[k * 5]? = some (.string L[k].path)) := by
        have := flatE_get L k hlt 0 (by omega)
        rw [Nat.add_zero] at this
        exact this
      have d0 : wr.cell? ⟨g, k * 5, none⟩ = some (.string L[k].path) := (HO.out.cellAt (k * 5) (by omega)).trans HC0.out
      have HST := hidD (set_self (flatE L) (k * 5) (.string L[k].path) HC0.out)
      generalize L[k] = o at *
      go_wp2_with (go_at_call 39; refine (clone_str o.path _ (by omega)).mono ?_; rintro r w2 ⟨rfl, hb2⟩; have o2 := own_below hb2 HO.out; have f2 := o2.frozenAt (k * 5); have x2 := (o2.cellAt (k * 5) (by omega)).trans HC0.out)
      obtain ⟨q1, q2⟩ := o2.stored (k * 5) (.string o.path)
      rw [HST.out] at q1
      exact ⟨⟨k + 1, by omega, by go_num, hidD q1, hidD ((HB.out.trans (hb2.mono HB.out.size)).grown q2 (Nat.le_trans HB.out.size hb2.size) (fun q hq => (o2.lt q hq).1))⟩, by simp [intOf]; omega⟩
    · go_wp2
      go_ret
      exact ⟨_, rfl, HO.out, HB.out⟩

/-- What Mount says of a list and a space. -/
def mountN (fold : Bool) (space : Int) (L : List EntD) : Int := if heldF fold L = false then 4 else if space < usedL L ∨ 100000 < space then 11 else 0

/-- A result's cell of type 88. -/
structure Mb (w : World) (cs : Array Value) (u : World) : Prop where
  bel : Below w.heap.size w u
  box : u.heap[w.heap.size]? = some (.cells cs 60 (0, 0))
theorem Mb.start (w : World) (cs : Array Value) : Mb w cs (w.alloc (.cells cs 60)) := ⟨(Below.refl _ _).alloc (Nat.le_refl _) _, heap_alloc_new w _⟩
theorem Mb.lt {w u : World} {cs : Array Value} (h : Mb w cs u) : w.heap.size < u.heap.size := (Array.getElem?_eq_some_iff.1 h.box).1
theorem Mb.below {w u u' : World} {cs : Array Value} (h : Mb w cs u) (hb : Below u.heap.size u u') : Mb w cs u' := ⟨h.bel.trans (hb.mono h.bel.size), (hb.block _ h.lt).trans h.box⟩
theorem Mb.cell {w u : World} {cs : Array Value} (h : Mb w cs u) (j : Nat) : u.cell? ⟨w.heap.size, j, none⟩ = cs[j]? := Lib.cell_of_heap h.box j
theorem Mb.frozen {w u : World} {cs : Array Value} (h : Mb w cs u) (j : Nat) : u.frozen? ⟨w.heap.size, j, none⟩ = false := frozen_of_row u _ j _ 60 h.box
theorem Mb.set {w u : World} {cs : Array Value} (h : Mb w cs u) (j : Nat) (v : Value) : Mb w (cs.setIfInBounds j v) (u.setCell ⟨w.heap.size, j, none⟩ v) := by
  refine ⟨⟨h.bel.os, h.bel.tape, h.bel.output, by simp; exact h.bel.size, fun k hk => ?_⟩, heap_setCell_same u w.heap.size j cs 60 v h.box⟩
  rw [heap_setCell_other u ⟨w.heap.size, j, none⟩ k _ (fun e => by simp at e; omega)]
  exact h.bel.block k hk

theorem Mb.fill {w u : World} {x0 x1 x2 x3 : Value} (h : Mb w #[x0, x1, x2, x3] u) (a b c d : Value) : Mb w #[a, b, c, d] ((((u.setCell ⟨w.heap.size, 0, none⟩ a).setCell ⟨w.heap.size, 1, none⟩ b).setCell ⟨w.heap.size, 2, none⟩ c).setCell ⟨w.heap.size, 3, none⟩ d) := by
  have := (((h.set 0 a).set 1 b).set 2 c).set 3 d
  simpa using this
theorem Mb.results {w u : World} {a : Option Addr} {m c : Nat} {b : Bool} {n : Int} {s : ByteArray} {k : Int} (h : Mb w #[.slice a m c, .bool b, .int .i64 n, .string s] u) (tmps : Array Value) (h8 : tmps.getD 8 undef = .pointer (some ⟨w.heap.size, 0, none⟩)) (h9 : tmps.getD 9 undef = .int .i64 k) :
    (results Tryz.f23 tmps).run Tryz.prog u = .ok (.tuple #[.agg #[.slice a m c, .bool b, .int .i64 n, .string s], .int .i64 k]) u := by
  rw [results_cell_tmp rfl, h8, h9]
  have z0 := h.cell 0
  have z1 := h.cell 1
  have z2 := h.cell 2
  have z3 := h.cell 3
  simp at z0 z1 z2 z3
  go_simp

theorem own_cell {u : World} {B e s n g : Nat} {v : Value} {xs : List Value} (h : u.ownsRow B e s v n xs) (hB : g < B) (j : Nat) (x : Value) : (u.setCell ⟨g, j, none⟩ x).ownsRow B e s v n xs := by
  refine h.kept (row := some g) ⟨rfl, rfl, rfl, by simp, fun k _ hk => heap_setCell_other u ⟨g, j, none⟩ k x (fun e => hk (by simp [e]))⟩ (.inr fun hv => ?_)
  have := (h.lt g hv).1
  omega

def zeroM : Array Value := #[.slice none 0 0, .bool false, .int .i64 0, .string ByteArray.empty]

/-- What Mount of the inner kind answers. -/
def VMnt (w : World) (fold : Bool) (space : Int) (j : ByteArray) (L : List EntD) (n : Int) (r : Ending) (w' : World) : Prop :=
  if n = 0 then ∃ a m c, r = .returned (.tuple #[.agg #[.slice a m c, .bool fold, .int .i64 space, .string j], .int .i64 0]) ∧ w'.ownsRow w.heap.size 54 5 (.slice a m c) L.length (flatE L) ∧ Below w.heap.size w w'
  else ∃ a m c b z s, r = .returned (.tuple #[.agg #[.slice a m c, .bool b, .int .i64 z, .string s], .int .i64 n]) ∧ Below w.heap.size w w'

section
variable {w : World} {v : Value} {L : List EntD}

set_option maxHeartbeats 4000000 in
set_option maxRecDepth 100000 in
theorem vMount_bad (fold : Bool) (hr : RowAt w v L) (hs : SmallL L) (space : Int) (j : ByteArray) (hh : heldF fold L = false) :
    Calls Tryz.prog 23 #[v, .bool fold, .int .i64 space, .string j] w fun r w' => ∃ a m c b z s, r = .returned (.tuple #[.agg #[.slice a m c, .bool b, .int .i64 z, .string s], .int .i64 4]) ∧ Below w.heap.size w w' := by
  have ST := hidD (Mb.start w zeroM)
  have HH := hidD (checkHeldF fold (hr.below ST.out.bel (Nat.le_refl _)) hs)
  rw [hh] at HH
  obtain ⟨a, c, rfl⟩ := hr.val
  clear hr hs
  unfold zeroM at *
  go_enter Tryz.func23, Tryz.ntmps23
  go_wp2_with (go_at_call 37; refine HH.out.mono ?_; rintro r w1 ⟨c1, k1, rfl, hck, hb1⟩; have hcn : (c1 != 0) = true := (by simp only [bne, hck]; rfl); have s1 := ST.out.below hb1; have z0 := s1.cell 0; have z1 := s1.cell 1; have z2 := s1.cell 2; have z3 := s1.cell 3; have y0 := s1.frozen 0; have y1 := s1.frozen 1; have y2 := s1.frozen 2; have y3 := s1.frozen 3; simp at z0 z1 z2 z3)
  have s2 := s1.fill (.slice none 0 0) (.bool false) (.int .i64 0) (.string ⟨#[]⟩)
  exact bodyPost_ret (s2.results _ rfl rfl) rfl ⟨_, _, _, _, _, _, rfl, s2.bel⟩

set_option maxHeartbeats 4000000 in
set_option maxRecDepth 100000 in
theorem vMount_space (fold : Bool) (hr : RowAt w v L) (hs : SmallL L) (space : Int) (j : ByteArray) (hh : heldF fold L = true) (hsp : space < usedL L ∨ 100000 < space) :
    Calls Tryz.prog 23 #[v, .bool fold, .int .i64 space, .string j] w fun r w' => ∃ a m c b z s, r = .returned (.tuple #[.agg #[.slice a m c, .bool b, .int .i64 z, .string s], .int .i64 11]) ∧ Below w.heap.size w w' := by
  have ST := hidD (Mb.start w zeroM)
  have HH := hidD (checkHeldF fold (hr.below ST.out.bel (Nat.le_refl _)) hs)
  have K := held_vol hh
  have HZ := hidD (fun (u : World) (hu : Below w.heap.size w u) => vsizes hr K.few K.sizesOk u hu)
  rw [hh] at HH
  obtain ⟨a, c, rfl⟩ := hr.val
  clear hr hs K
  unfold zeroM at *
  generalize usedL L = us at *
  by_cases h1 : space < us
  · go_enter Tryz.func23, Tryz.ntmps23
    go_wp2_with (first | (go_at_call 37; refine HH.out.mono ?_; rintro r w1 ⟨c1, k1, rfl, hck, hb1⟩; have hcn : (c1 != 0) = false := (by simp only [bne, hck]; rfl); have s1 := ST.out.below hb1) | (go_at_call 31; refine (HZ.out _ s1.bel).mono ?_; rintro r w2 ⟨rfl, hb2⟩; have s2 := s1.below hb2; have z0 := s2.cell 0; have z1 := s2.cell 1; have z2 := s2.cell 2; have z3 := s2.cell 3; have y0 := s2.frozen 0; have y1 := s2.frozen 1; have y2 := s2.frozen 2; have y3 := s2.frozen 3; simp at z0 z1 z2 z3))
    have s3 := s2.fill (.slice none 0 0) (.bool false) (.int .i64 0) (.string ⟨#[]⟩)
    exact bodyPost_ret (s3.results _ rfl rfl) rfl ⟨_, _, _, _, _, _, rfl, s3.bel⟩
  · have h2 : 100000 < space := by omega
    go_enter Tryz.func23, Tryz.ntmps23
    go_wp2_with (first | (go_at_call 37; refine HH.out.mono ?_; rintro r w1 ⟨c1, k1, rfl, hck, hb1⟩; have hcn : (c1 != 0) = false := (by simp only [bne, hck]; rfl); have s1 := ST.out.below hb1) | (go_at_call 31; refine (HZ.out _ s1.bel).mono ?_; rintro r w2 ⟨rfl, hb2⟩; have s2 := s1.below hb2; have z0 := s2.cell 0; have z1 := s2.cell 1; have z2 := s2.cell 2; have z3 := s2.cell 3; have y0 := s2.frozen 0; have y1 := s2.frozen 1; have y2 := s2.frozen 2; have y3 := s2.frozen 3; simp at z0 z1 z2 z3))
    have s3 := s2.fill (.slice none 0 0) (.bool false) (.int .i64 0) (.string ⟨#[]⟩)
    exact bodyPost_ret (s3.results _ rfl rfl) rfl ⟨_, _, _, _, _, _, rfl, s3.bel⟩

set_option maxHeartbeats 4000000 in
set_option maxRecDepth 100000 in
theorem vMount_ok (fold : Bool) (hr : RowAt w v L) (hs : SmallL L) (space : Int) (j : ByteArray) (hj : j.size ≤ 2000000) (hh : heldF fold L = true) (h1 : ¬ space < usedL L) (h2 : ¬ 100000 < space) :
    Calls Tryz.prog 23 #[v, .bool fold, .int .i64 space, .string j] w fun r w' => ∃ a m c, r = .returned (.tuple #[.agg #[.slice a m c, .bool fold, .int .i64 space, .string j], .int .i64 0]) ∧ w'.ownsRow w.heap.size 54 5 (.slice a m c) L.length (flatE L) ∧ Below w.heap.size w w' := by
  have ST := hidD (Mb.start w zeroM)
  have HH := hidD (checkHeldF fold (hr.below ST.out.bel (Nat.le_refl _)) hs)
  have K := held_vol hh
  have HZ := hidD (fun (u : World) (hu : Below w.heap.size w u) => vsizes hr K.few K.sizesOk u hu)
  have HCP := hidD (fun (u : World) (hu : Below w.heap.size w u) => vcopied (hr.below hu (Nat.le_refl _)) (by have := K.few; omega) hs.2)
  rw [hh] at HH
  obtain ⟨a, c, rfl⟩ := hr.val
  clear hr hs K
  unfold zeroM at *
  generalize usedL L = us at *
  go_enter Tryz.func23, Tryz.ntmps23
  go_wp2_with (first | (go_at_call 37; refine HH.out.mono ?_; rintro r w1 ⟨c1, k1, rfl, hck, hb1⟩; have hcn : (c1 != 0) = false := (by simp only [bne, hck]; rfl); have s1 := ST.out.below hb1) | (go_at_call 31; refine (HZ.out _ s1.bel).mono ?_; rintro r w2 ⟨rfl, hb2⟩; have s2 := s1.below hb2) | (go_at_call 38; refine (HCP.out _ s2.bel).mono ?_; rintro r w3 ⟨v3, rfl, hown3, hb3⟩; obtain ⟨a3, m3, q3, hv3⟩ := own_shape hown3; subst hv3; have s3 := s2.below hb3) | (go_at_call 39; refine (clone_str j _ hj).mono ?_; rintro r w4 ⟨rfl, hb4⟩; have s4 := s3.below hb4; have o4 := own_below hb4 hown3; have z0 := s4.cell 0; have z1 := s4.cell 1; have z2 := s4.cell 2; have z3 := s4.cell 3; have y0 := s4.frozen 0; have y1 := s4.frozen 1; have y2 := s4.frozen 2; have y3 := s4.frozen 3; simp at z0 z1 z2 z3))
  have s5 := s4.fill (.slice a3 m3 q3) (.bool fold) (.int .i64 space) (.string j)
  refine bodyPost_ret (s5.results _ rfl rfl) rfl ⟨_, _, _, rfl, ?_, s5.bel⟩
  have hlt4 := s2.lt
  exact own_mono (B' := w.heap.size) (own_cell (own_cell (own_cell (own_cell o4 hlt4 0 _) hlt4 1 _) hlt4 2 _) hlt4 3 _) (by omega)

theorem vMount (fold : Bool) (hr : RowAt w v L) (hs : SmallL L) (space : Int) (j : ByteArray) (hj : j.size ≤ 2000000) :
    Calls Tryz.prog 23 #[v, .bool fold, .int .i64 space, .string j] w fun r w' => VMnt w fold space j L (mountN fold space L) r w' := by
  unfold VMnt mountN
  cases hh : heldF fold L
  · rw [if_pos rfl]
    exact (vMount_bad fold hr hs space j hh).mono (fun r w' h => by rw [if_neg (by decide : ¬ (4 : Int) = 0)]; exact h)
  · rw [if_neg (by decide)]
    by_cases hsp : space < usedL L ∨ 100000 < space
    · rw [if_pos hsp]
      exact (vMount_space fold hr hs space j hh hsp).mono (fun r w' h => by rw [if_neg (by decide : ¬ (11 : Int) = 0)]; exact h)
    · rw [if_neg hsp]
      exact (vMount_ok fold hr hs space j hj hh (fun h => hsp (.inl h)) (fun h => hsp (.inr h))).mono (fun r w' h => by rw [if_pos rfl]; exact h)

/-- What Mount answers. -/
def CMnt (T : TypeId) (w : World) (fold : Bool) (space : Int) (rest : List Value) (n : Int) (R : Value → World → Prop) (r : Ending) (w' : World) : Prop :=
  if n = 0 then ∃ vb v', r = .returned (.tuple #[.pointer (some ⟨vb, 0, none⟩), .int .i64 0]) ∧ w.heap.size ≤ vb ∧ Vk T w' vb v' fold space rest ∧ R v' w' ∧ Below w.heap.size w w'
  else r = .returned (.tuple #[.pointer none, .int .i64 n]) ∧ Below w.heap.size w w'

set_option maxHeartbeats 4000000 in
set_option maxRecDepth 100000 in
/-- convoy's Mount. -/
theorem cMount (fold : Bool) (hr : RowAt w v L) (hs : SmallL L) (space : Int) (j : ByteArray) (hj : j.size ≤ 2000000) :
    Calls Tryz.prog 15 #[v, .bool fold, .int .i64 space, .string j] w fun r w' => CMnt 64 w fold space [.string j] (mountN fold space L) (fun v' w' => w'.ownsRow w.heap.size 54 5 v' L.length (flatE L)) r w' := by
  have HM := hidD (vMount fold hr hs space j hj)
  obtain ⟨a, c, rfl⟩ := hr.val
  clear hr hs
  unfold VMnt at HM
  unfold CMnt
  generalize mountN fold space L = n at *
  by_cases hn : n = 0
  · subst hn
    simp only [↓reduceIte] at HM ⊢
    go_enter Tryz.func15, Tryz.ntmps15
    go_wp2_with (go_at_call 23; refine HM.out.mono ?_; rintro r w1 ⟨a1, m1, c1, rfl, hown1, hb1⟩)
    go_ret2
    refine ⟨_, _, rfl, by have := hb1.size; omega, ?_, (hown1.alloc _).alloc _, (hb1.alloc hb1.size _).alloc (by have := hb1.size; simp; omega) _⟩
    have := heap_alloc_new (w1.alloc (.cells #[.slice a1 m1 c1, .bool fold, .int .i64 space, .string j] 60)) (.cells #[.slice a1 m1 c1, .bool fold, .int .i64 space, .string j] 64)
    rw [World.size_alloc] at this
    exact this
  · simp only [if_neg hn] at HM ⊢
    have hn' : (n != 0) = true := by simpa using hn
    go_enter Tryz.func15, Tryz.ntmps15
    go_wp2_with (go_at_call 23; refine HM.out.mono ?_; rintro r w1 ⟨a1, m1, c1, b1, z1, s1, rfl, hb1⟩)
    go_ret2
    exact ⟨rfl, hb1.alloc hb1.size _⟩
end
end Go.Proofs.YtemkpollilhmjaaGreatDoor

