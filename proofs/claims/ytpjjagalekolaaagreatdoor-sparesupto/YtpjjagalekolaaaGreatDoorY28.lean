/- HB, WE, WB, WD, HA: in one text. -/
import Derived.Test.YtpjjagalekolaaaGreatDoorY27
import Derived.Deep.RegionWith
import Derived.Test.YtpjjagalekolaaaGreatDoorY26
import Derived.Test.YtpjjagalekolaaaGreatDoorY15FC
/- A volume's Do at whatever block it lies in; convoy's Do, Tree and Journal. -/
namespace Go.Proofs.YtpjjagalekolaaaGreatDoor
open Go.RowKit
set_option linter.unusedVariables false
set_option linter.unusedSimpArgs false

set_option maxHeartbeats 4000000 in
set_option maxRecDepth 100000 in
theorem vDoT_of {T : TypeId} {w : World} {vb : Nat} {v : Value} {fold : Bool} {space : Int} {rest : List Value} (hv : Vk T w vb v fold space rest) (kind : Int) (path dest : ByteArray) (id size mode : Int) (x : Except Int (List EntD))
    (H1 : ∀ u : World, Below w.heap.size w u → Calls Tryz.prog 74 #[.agg #[.int .i64 kind, .string path, .string dest, .int .i64 id, .int .i64 size, .int .i64 mode]] u fun e w' => e = .returned (.bool true) ∧ Below u.heap.size u w')
    (H2 : ∀ u : World, Below w.heap.size w u → Calls Tryz.prog 75 #[.pointer (some ⟨vb, 0, none⟩), .agg #[.int .i64 kind, .string path, .string dest, .int .i64 id, .int .i64 size, .int .i64 mode]] u fun r w' => Ans u.heap.size x r w' ∧ Below u.heap.size u w')
    (hx : ∀ n, x = .error n → n ≠ 0) :
    Calls Tryz.prog 45 #[.pointer (some ⟨vb, 0, none⟩), .agg #[.int .i64 kind, .string path, .string dest, .int .i64 id, .int .i64 size, .int .i64 mode]] w fun r w' => DoA T w vb fold space rest x r w' := by
  have ST := hidD (Ob.start w ⟨kind, path, dest, id, size, mode⟩)
  have HA := hidD H1
  have HB := hidD H2
  have HV := hidD hv
  have hvlt := hv.lt
  clear H1 H2 hv
  cases x with
  | error n =>
    have hn : (n == 0) = false := by simpa using hx n rfl
    clear hx
    unfold Ans at HB
    unfold DoA
    go_enter Tryz.func45, Tryz.ntmps45
    go_wp2_with (first | (go_at_call 74; refine (HA.out _ ST.out.bel).mono ?_; rintro r w1 ⟨rfl, hb1⟩; have s1 := ST.out.below hb1; have d0 := s1.cell 0; have d1 := s1.cell 1; have d2 := s1.cell 2; have d3 := s1.cell 3; have d4 := s1.cell 4; have d5 := s1.cell 5; simp [OpD.cells] at d0 d1 d2 d3 d4 d5) | (go_at_call 75; refine (HB.out _ s1.bel).mono ?_; rintro r w2 ⟨rfl, hb2⟩; have s2 := s1.below hb2))
    go_ret
    exact ⟨rfl, s2.bel⟩
  | ok M =>
    clear hx
    unfold Ans at HB
    unfold DoA
    go_enter Tryz.func45, Tryz.ntmps45
    go_wp2_with (first | (go_at_call 74; refine (HA.out _ ST.out.bel).mono ?_; rintro r w1 ⟨rfl, hb1⟩; have s1 := ST.out.below hb1; have d0 := s1.cell 0; have d1 := s1.cell 1; have d2 := s1.cell 2; have d3 := s1.cell 3; have d4 := s1.cell 4; have d5 := s1.cell 5; simp [OpD.cells] at d0 d1 d2 d3 d4 d5) | (go_at_call 75; refine (HB.out _ s1.bel).mono ?_; rintro r w2 ⟨⟨v2, rfl, hown2⟩, hb2⟩; have s2 := s1.below hb2; obtain ⟨a2, m2, c2, hv2⟩ := own_shape hown2; subst hv2; have k2 := HV.out.below s2.bel hvlt; have f2 := k2.frozen 0; have e2 := k2.vol.c0))
    go_ret
    obtain ⟨q1, q2⟩ := k2.set (.slice a2 m2 c2)
    refine ⟨rfl, _, q1, ?_, grown_of s2.bel q2⟩
    have h3 := own_mono hown2 s1.bel.size
    refine h3.kept q2 ?_
    cases hb : (Value.slice a2 m2 c2).ownBlock with
    | none => exact .inl rfl
    | some g => exact .inr (fun e => by have := (h3.lt g hb).1; cases e; omega)
theorem vDoT_good {T : TypeId} {u : World} {vb : Nat} {v : Value} {L : List EntD} {fold : Bool} {space : Int} {rest : List Value} (hk : Vk T u vb v fold space rest) (hr : RowAt u v L) (K : VolOk fold L) (hg : Gd u) (o : OpD) (hok : okOp o = true) (hsm : o.small) (h0 : 0 ≤ space) (h1 : space ≤ 9223372036854775807) :
    Calls Tryz.prog 45 #[.pointer (some ⟨vb, 0, none⟩), .agg #[.int .i64 o.kind, .string o.path, .string o.dest, .int .i64 o.id, .int .i64 o.size, .int .i64 o.mode]] u fun r w' => DoA T u vb fold space rest (doL fold space L o) r w' := by
  refine vDoT_of hk o.kind o.path o.dest o.id o.size o.mode _ (fun u1 hu => ?_) (fun u1 hu => ?_) (fun n hn => do_err hn)
  · have := isOp_any o u1 (hg.below hu) hsm
    rwa [hok] at this
  · refine vafter o.kind o.path o.dest o.id o.size o.mode (okOp_good hok).kinds _ (fun u2 hu2 => ?_)
    have hu' : Below u.heap.size u u2 := hu.trans (hu2.mono hu.size)
    exact vops (Vm.of K (hk.vol.below hu' hk.lt) (hr.below hu' (Nat.le_refl _)) h0 h1) K o hsm (okOp_good hok)

/-- What a volume answers to whatever operation. -/
def doesL (fold : Bool) (space : Int) (L : List EntD) (o : OpD) : Except Int (List EntD) := if okOp o = true then doL fold space L o else .error 18

set_option maxHeartbeats 4000000 in
set_option maxRecDepth 100000 in
theorem vDoT_bad {w : World} (vb : Nat) (o : OpD) (hg : Gd w) (hsm : o.small) (hok : okOp o = false) :
    Calls Tryz.prog 45 #[.pointer (some ⟨vb, 0, none⟩), .agg #[.int .i64 o.kind, .string o.path, .string o.dest, .int .i64 o.id, .int .i64 o.size, .int .i64 o.mode]] w fun r w' => r = .returned (.int .i64 18) ∧ Below w.heap.size w w' := by
  have ST := hidD (Ob.start w o)
  have HA := hidD (fun (u : World) (hu : Below w.heap.size w u) => isOp_any o u (hg.below hu) hsm)
  rw [hok] at HA
  obtain ⟨kind, path, dest, id, size, mode⟩ := o
  dsimp only at *
  clear hg
  go_enter Tryz.func45, Tryz.ntmps45
  go_wp2_with (go_at_call 74; refine (HA.out _ ST.out.bel).mono ?_; rintro r w1 ⟨rfl, hb1⟩; have s1 := ST.out.below hb1)
  go_ret
  exact ⟨rfl, s1.bel⟩
theorem vDoT {T : TypeId} {u : World} {vb : Nat} {v : Value} {L : List EntD} {fold : Bool} {space : Int} {rest : List Value} (hk : Vk T u vb v fold space rest) (hr : RowAt u v L) (K : VolOk fold L) (hg : Gd u) (o : OpD) (hsm : o.small) (h0 : 0 ≤ space) (h1 : space ≤ 9223372036854775807) :
    Calls Tryz.prog 45 #[.pointer (some ⟨vb, 0, none⟩), .agg #[.int .i64 o.kind, .string o.path, .string o.dest, .int .i64 o.id, .int .i64 o.size, .int .i64 o.mode]] u fun r w' => DoA T u vb fold space rest (doesL fold space L o) r w' := by
  unfold doesL
  cases hok : okOp o
  · rw [if_neg (by decide)]
    exact vDoT_bad vb o hg hsm hok
  · rw [if_pos rfl]
    exact vDoT_good hk hr K hg o hok hsm h0 h1

theorem DoA.retD {T : TypeId} {w : World} {vb : Nat} {fold : Bool} {space : Int} {rest : List Value} {x : Except Int (List EntD)} {r : Ending} {w' : World} (h : DoA T w vb fold space rest x r w') : ∃ n : Int, r = .returned (.int .i64 n) := by
  cases x with
  | error n => exact ⟨n, h.1⟩
  | ok M => exact ⟨0, h.1⟩
theorem DoA.from_below {T : TypeId} {w u : World} {vb : Nat} {fold : Bool} {space : Int} {rest : List Value} {x : Except Int (List EntD)} {r : Ending} {w' : World} (hb : Below w.heap.size w u) (h : DoA T u vb fold space rest x r w') : DoA T w vb fold space rest x r w' := by
  cases x with
  | error n => exact ⟨h.1, hb.trans (h.2.mono hb.size)⟩
  | ok M =>
    obtain ⟨h1, v', h2, h3, h4⟩ := h
    exact ⟨h1, v', h2, own_mono h3 hb.size, grown_of hb h4⟩

set_option maxHeartbeats 4000000 in
set_option maxRecDepth 100000 in
/-- convoy's Do. -/
theorem cDo {u : World} {vb : Nat} {v : Value} {L : List EntD} {fold : Bool} {space : Int} {rest : List Value} (hk : Vk 89 u vb v fold space rest) (hr : RowAt u v L) (K : VolOk fold L) (hg : Gd u) (o : OpD) (hsm : o.small) (h0 : 0 ≤ space) (h1 : space ≤ 9223372036854775807) :
    Calls Tryz.prog 25 #[.pointer (some ⟨vb, 0, none⟩), .agg #[.int .i64 o.kind, .string o.path, .string o.dest, .int .i64 o.id, .int .i64 o.size, .int .i64 o.mode]] u fun r w' => DoA 89 u vb fold space rest (doesL fold space L o) r w' := by
  have ST := hidD (Ob.start u o)
  have HD := hidD (fun (w1 : World) (hb : Below u.heap.size u w1) => vDoT (hk.below hb hk.lt) (hr.below hb (Nat.le_refl _)) K (hg.below hb) o hsm h0 h1)
  have hc := hk.vol.c0
  have hlt := hk.lt
  obtain ⟨kind, path, dest, id, size, mode⟩ := o
  dsimp only at *
  clear hk hr K hg
  generalize doesL fold space L ⟨kind, path, dest, id, size, mode⟩ = X at *
  go_enter Tryz.func25, Tryz.ntmps25
  go_wp2
  go_region_with (go_at_call 45; refine (HD.out _ (ST.out.drewN 1).bel).mono ?_; intro r w1 hd; obtain ⟨n, hr⟩ := hd.retD; subst hr)
  all_goals go_wp2
  all_goals go_ret
  all_goals exact DoA.from_below (ST.out.drewN 1).bel hd

set_option maxHeartbeats 4000000 in
theorem vTree {T : TypeId} {w : World} {vb : Nat} {v : Value} {L : List EntD} {fold : Bool} {space : Int} {rest : List Value} (hk : Vk T w vb v fold space rest) (hr : RowAt w v L) (hl : L.length ≤ 1000) :
    Calls Tryz.prog 44 #[.pointer (some ⟨vb, 0, none⟩)] w fun e w' => ∃ v', e = .returned v' ∧ w'.ownsRow w.heap.size 56 5 v' L.length (flatE L) ∧ Below w.heap.size w w' := by
  have HC := hidD (vclone hr hl)
  have c0 := hk.vol.c0
  obtain ⟨a, c, rfl⟩ := hr.val
  clear hk hr
  go_enter Tryz.func44, Tryz.ntmps44
  go_wp2_with (go_at_call 70; refine HC.out.mono ?_; rintro r w1 ⟨v1, rfl, hown1, hb1⟩; obtain ⟨a4, n4, q4, hv4⟩ := own_shape hown1; subst hv4)
  go_ret
  exact ⟨_, rfl, hown1, hb1⟩
set_option maxHeartbeats 4000000 in
theorem cTree {w : World} {vb : Nat} {v : Value} {L : List EntD} {fold : Bool} {space : Int} {rest : List Value} (hk : Vk 89 w vb v fold space rest) (hr : RowAt w v L) (hl : L.length ≤ 1000) :
    Calls Tryz.prog 23 #[.pointer (some ⟨vb, 0, none⟩)] w fun e w' => ∃ v', e = .returned v' ∧ w'.ownsRow w.heap.size 56 5 v' L.length (flatE L) ∧ Below w.heap.size w w' := by
  have HC := hidD (vTree hk hr hl)
  have c0 := hk.vol.c0
  clear hk hr
  go_enter Tryz.func23, Tryz.ntmps23
  go_wp2_with (go_at_call 44; refine HC.out.mono ?_; rintro r w1 ⟨v1, rfl, hown1, hb1⟩; obtain ⟨a4, n4, q4, hv4⟩ := own_shape hown1; subst hv4)
  go_ret
  exact ⟨_, rfl, hown1, hb1⟩
theorem Vk.c3 {T : TypeId} {w : World} {vb : Nat} {v : Value} {fold : Bool} {space : Int} {x : Value} {rest : List Value} (h : Vk T w vb v fold space (x :: rest)) : w.cell? ⟨vb, 3, none⟩ = some x := by rw [Lib.cell_of_heap h]; rfl
end Go.Proofs.YtpjjagalekolaaaGreatDoor

/- Two rows of entries, equal or not: the program's comparison and the document's. -/
namespace Go.Proofs.YtpjjagalekolaaaGreatDoor
open Go.RowKit
set_option linter.unusedVariables false
set_option linter.unusedSimpArgs false

set_option maxHeartbeats 2000000 in
set_option maxRecDepth 100000 in
theorem neq75 (op pp : ByteArray) (od pd : Bool) (oi os om pi ps pm : Int) (h : ¬ (op = pp ∧ od = pd ∧ oi = pi ∧ os = ps ∧ om = pm)) (u : World) : (binOp .neq 56 (.agg #[.string op, .bool od, .int .i64 oi, .int .i64 os, .int .i64 om]) (.agg #[.string pp, .bool pd, .int .i64 pi, .int .i64 ps, .int .i64 pm])).run Tryz.prog u = .ok (.bool true) u := by
  have hp : op.toList = pp.toList → op = pp := fun e => by rw [ba_toList, ba_toList] at e; exact ByteArray.ext (Array.toList_inj.1 e)
  simp only [go_sem]
  simp [go_sem]
  exact fun e0 e1 e2 e3 e4 => h ⟨hp e0, e1, e2, e3, e4⟩
set_option maxHeartbeats 2000000 in
set_option maxRecDepth 100000 in
theorem vEq_row (b1 o1 c1 b2 o2 c2 : Nat) (M N : List EntD) (w : World) (hl : M.length ≤ 2000000) (hn : N.length = M.length) (h1 : EntsAt w b1 o1 M) (h2 : EntsAt w b2 o2 N) :
    Calls Tryz.prog 172 #[.slice (some ⟨b1, o1, none⟩) M.length c1, .slice (some ⟨b2, o2, none⟩) M.length c2] w fun e w' => ∃ b : Bool, e = .returned (.bool b) ∧ (b = true ↔ M = N) ∧ ∃ n, w' = w.drewN n := by
  have hne : ((M.length : Int) != (M.length : Int)) = false := by simp
  go_enter Tryz.func172, Tryz.ntmps172
  go_wp2
  go_loopw [13] (fun i wr => ∃ k n : Nat, k ≤ M.length ∧ i = .int .i64 k ∧ wr = w.drewN n ∧ ∀ j, j < k → M[j]? = N[j]?) (fun i _ => M.length - (intOf i).toNat)
  case atStart => exact ⟨0, 0, Nat.zero_le _, rfl, rfl, fun j hj => by omega⟩
  case round =>
    obtain ⟨k, n, hk, rfl, rfl, hsame⟩ := hrel
    by_cases hlt : k < M.length
    · have a := h1 k hlt
      have b := h2 k (by omega)
      have hlt' : (k : Int) < (M.length : Int) := by omega
      have HK := List.getElem?_eq_getElem hlt
      have HK2 := List.getElem?_eq_getElem (l := N) (i := k) (by omega)
      generalize M[k] = o at *
      generalize N[k]'(by omega) = p at *
      obtain ⟨op, od, oi, os, om⟩ := o
      obtain ⟨pp, pd, pi, ps, pm⟩ := p
      have a0 := a 0 _ rfl
      have a1 := a 1 _ rfl
      have a2 := a 2 _ rfl
      have a3 := a 3 _ rfl
      have a4 := a 4 _ rfl
      have b0 := b 0 _ rfl
      have b1 := b 1 _ rfl
      have b2 := b 2 _ rfl
      have b3 := b 3 _ rfl
      have b4 := b 4 _ rfl
      simp only [Nat.add_zero] at a0 b0
      clear a b
      by_cases heq : op = pp ∧ od = pd ∧ oi = pi ∧ os = ps ∧ om = pm
      · obtain ⟨rfl, rfl, rfl, rfl, rfl⟩ := heq
        go_wp2
        go_quiet (fail)
        go_wp2
        refine ⟨⟨k + 1, _, by omega, by go_num, rfl, fun j hj => ?_⟩, by simp [intOf]; omega⟩
        by_cases hjk : j < k
        · exact hsame j hjk
        · obtain rfl : j = k := by omega
          rw [HK, HK2]
      · have hnq := neq75 op pp od pd oi os om pi ps pm heq
        go_wp2
        go_quiet (fail)
        go_wp2
        go_ret
        refine ⟨false, rfl, ⟨fun h => (by cases h), fun h => absurd ?_ heq⟩, _, World.drewN_drewN ..⟩
        rw [h, HK2] at HK
        simp only [Option.some.injEq, EntD.mk.injEq] at HK
        exact ⟨HK.1.symm, HK.2.1.symm, HK.2.2.1.symm, HK.2.2.2.1.symm, HK.2.2.2.2.symm⟩
    · go_wp2
      go_ret
      exact ⟨true, rfl, ⟨fun _ => List.ext_getElem? (fun j => by by_cases hj : j < M.length; exact hsame j (by omega); rw [List.getElem?_eq_none (by omega), List.getElem?_eq_none (by omega)]), fun _ => rfl⟩, n, rfl⟩

set_option maxHeartbeats 1000000 in
theorem vEq_len (a1 a2 : Option Addr) (n1 n2 c1 c2 : Nat) (h : n1 ≠ n2) (w : World) :
    Calls Tryz.prog 172 #[.slice a1 n1 c1, .slice a2 n2 c2] w fun e w' => e = .returned (.bool false) ∧ w' = w := by
  have hne : ((n1 : Int) != (n2 : Int)) = true := by simp; omega
  go_enter Tryz.func172, Tryz.ntmps172
  go_wp2
  go_ret
  exact ⟨rfl, rfl⟩
set_option maxHeartbeats 1000000 in
theorem vEq_0 (a1 a2 : Option Addr) (c1 c2 : Nat) (w : World) :
    Calls Tryz.prog 172 #[.slice a1 0 c1, .slice a2 0 c2] w fun e w' => e = .returned (.bool true) ∧ w' = w := by
  go_enter Tryz.func172, Tryz.ntmps172
  go_wp2
  refine wp_loop_rounds 1 ?_
  rw [rounds_succ]
  go_wp2
  go_ret
  exact ⟨rfl, rfl⟩
theorem vEq {w : World} {v1 v2 : Value} {M N : List EntD} (h1 : RowAt w v1 M) (h2 : RowAt w v2 N) (hl : M.length ≤ 2000000) :
    Calls Tryz.prog 172 #[v1, v2] w fun e w' => ∃ b : Bool, e = .returned (.bool b) ∧ (b = true ↔ M = N) ∧ ∃ n, w' = w.drewN n := by
  by_cases hn : M.length = N.length
  · by_cases h0 : M.length = 0
    · obtain ⟨a1, c1, rfl⟩ := h1.val
      obtain ⟨a2, c2, rfl⟩ := h2.val
      have e1 : M = [] := List.length_eq_zero_iff.1 h0
      have e2 : N = [] := List.length_eq_zero_iff.1 (by omega)
      subst e1
      subst e2
      exact (vEq_0 a1 a2 c1 c2 w).mono (by rintro e w' ⟨rfl, rfl⟩; exact ⟨true, rfl, by simp, 0, rfl⟩)
    · cases h1 with
      | nil => exact absurd rfl h0
      | row b1 o1 c1 l hb1 hc1 hm1 e1 =>
        cases h2 with
        | nil => exact absurd hn h0
        | row b2 o2 c2 l hb2 hc2 hm2 e2 =>
          rw [← hn]
          exact vEq_row b1 o1 c1 b2 o2 c2 M N w hl hn.symm e1 e2
  · obtain ⟨a1, c1, rfl⟩ := h1.val
    obtain ⟨a2, c2, rfl⟩ := h2.val
    exact (vEq_len a1 a2 _ _ c1 c2 hn w).mono (by rintro e w' ⟨rfl, rfl⟩; exact ⟨false, rfl, ⟨fun h => (by cases h), fun h => absurd (congrArg List.length h) hn⟩, 0, rfl⟩)

set_option maxHeartbeats 2000000 in
set_option maxRecDepth 100000 in
theorem rEq_row (b1 o1 c1 b2 o2 c2 : Nat) (M N : List EntD) (w : World) (hl : M.length ≤ 2000000) (hn : N.length = M.length) (h1 : EntsAt w b1 o1 M) (h2 : EntsAt w b2 o2 N) :
    Calls Tryz.prog 21 #[.slice (some ⟨b1, o1, none⟩) M.length c1, .slice (some ⟨b2, o2, none⟩) M.length c2] w fun e w' => ∃ b : Bool, e = .returned (.bool b) ∧ (b = true ↔ M = N) ∧ ∃ n, w' = w.drewN n := by
  have hne : ((M.length : Int) != (M.length : Int)) = false := by simp
  go_enter Tryz.func21, Tryz.ntmps21
  go_wp2
  go_loopw [5] (fun i wr => ∃ k n : Nat, k ≤ M.length ∧ i = .int .i64 k ∧ wr = w.drewN n ∧ ∀ j, j < k → M[j]? = N[j]?) (fun i _ => M.length - (intOf i).toNat)
  case atStart => exact ⟨0, 0, Nat.zero_le _, rfl, rfl, fun j hj => by omega⟩
  case round =>
    obtain ⟨k, n, hk, rfl, rfl, hsame⟩ := hrel
    by_cases hlt : k < M.length
    · have a := h1 k hlt
      have b := h2 k (by omega)
      have hlt' : (k : Int) < (M.length : Int) := by omega
      have HK := List.getElem?_eq_getElem hlt
      have HK2 := List.getElem?_eq_getElem (l := N) (i := k) (by omega)
      generalize M[k] = o at *
      generalize N[k]'(by omega) = p at *
      obtain ⟨op, od, oi, os, om⟩ := o
      obtain ⟨pp, pd, pi, ps, pm⟩ := p
      have a0 := a 0 _ rfl
      have a1 := a 1 _ rfl
      have a2 := a 2 _ rfl
      have a3 := a 3 _ rfl
      have a4 := a 4 _ rfl
      have b0 := b 0 _ rfl
      have b1 := b 1 _ rfl
      have b2 := b 2 _ rfl
      have b3 := b 3 _ rfl
      have b4 := b 4 _ rfl
      simp only [Nat.add_zero] at a0 b0
      clear a b
      by_cases heq : op = pp ∧ od = pd ∧ oi = pi ∧ os = ps ∧ om = pm
      · obtain ⟨rfl, rfl, rfl, rfl, rfl⟩ := heq
        go_wp2
        go_quiet (fail)
        go_wp2
        refine ⟨⟨k + 1, _, by omega, by go_num, rfl, fun j hj => ?_⟩, by simp [intOf]; omega⟩
        by_cases hjk : j < k
        · exact hsame j hjk
        · obtain rfl : j = k := by omega
          rw [HK, HK2]
      · have hnq := neq75 op pp od pd oi os om pi ps pm heq
        go_wp2
        go_quiet (fail)
        go_wp2
        go_ret
        refine ⟨false, rfl, ⟨fun h => (by cases h), fun h => absurd ?_ heq⟩, _, World.drewN_drewN ..⟩
        rw [h, HK2] at HK
        simp only [Option.some.injEq, EntD.mk.injEq] at HK
        exact ⟨HK.1.symm, HK.2.1.symm, HK.2.2.1.symm, HK.2.2.2.1.symm, HK.2.2.2.2.symm⟩
    · go_wp2
      go_ret
      exact ⟨true, rfl, ⟨fun _ => List.ext_getElem? (fun j => by by_cases hj : j < M.length; exact hsame j (by omega); rw [List.getElem?_eq_none (by omega), List.getElem?_eq_none (by omega)]), fun _ => rfl⟩, n, rfl⟩

set_option maxHeartbeats 1000000 in
theorem rEq_len (a1 a2 : Option Addr) (n1 n2 c1 c2 : Nat) (h : n1 ≠ n2) (w : World) :
    Calls Tryz.prog 21 #[.slice a1 n1 c1, .slice a2 n2 c2] w fun e w' => e = .returned (.bool false) ∧ w' = w := by
  have hne : ((n1 : Int) != (n2 : Int)) = true := by simp; omega
  go_enter Tryz.func21, Tryz.ntmps21
  go_wp2
  go_ret
  exact ⟨rfl, rfl⟩
set_option maxHeartbeats 1000000 in
theorem rEq_0 (a1 a2 : Option Addr) (c1 c2 : Nat) (w : World) :
    Calls Tryz.prog 21 #[.slice a1 0 c1, .slice a2 0 c2] w fun e w' => e = .returned (.bool true) ∧ w' = w := by
  go_enter Tryz.func21, Tryz.ntmps21
  go_wp2
  refine wp_loop_rounds 1 ?_
  rw [rounds_succ]
  go_wp2
  go_ret
  exact ⟨rfl, rfl⟩
theorem rEq {w : World} {v1 v2 : Value} {M N : List EntD} (h1 : RowAt w v1 M) (h2 : RowAt w v2 N) (hl : M.length ≤ 2000000) :
    Calls Tryz.prog 21 #[v1, v2] w fun e w' => ∃ b : Bool, e = .returned (.bool b) ∧ (b = true ↔ M = N) ∧ ∃ n, w' = w.drewN n := by
  by_cases hn : M.length = N.length
  · by_cases h0 : M.length = 0
    · obtain ⟨a1, c1, rfl⟩ := h1.val
      obtain ⟨a2, c2, rfl⟩ := h2.val
      have e1 : M = [] := List.length_eq_zero_iff.1 h0
      have e2 : N = [] := List.length_eq_zero_iff.1 (by omega)
      subst e1
      subst e2
      exact (rEq_0 a1 a2 c1 c2 w).mono (by rintro e w' ⟨rfl, rfl⟩; exact ⟨true, rfl, by simp, 0, rfl⟩)
    · cases h1 with
      | nil => exact absurd rfl h0
      | row b1 o1 c1 l hb1 hc1 hm1 e1 =>
        cases h2 with
        | nil => exact absurd hn h0
        | row b2 o2 c2 l hb2 hc2 hm2 e2 =>
          rw [← hn]
          exact rEq_row b1 o1 c1 b2 o2 c2 M N w hl hn.symm e1 e2
  · obtain ⟨a1, c1, rfl⟩ := h1.val
    obtain ⟨a2, c2, rfl⟩ := h2.val
    exact (rEq_len a1 a2 _ _ c1 c2 hn w).mono (by rintro e w' ⟨rfl, rfl⟩; exact ⟨false, rfl, ⟨fun h => (by cases h), fun h => absurd (congrArg List.length h) hn⟩, 0, rfl⟩)
end Go.Proofs.YtpjjagalekolaaaGreatDoor

/- Work's own small things: the journal's marks. -/
namespace Go.Proofs.YtpjjagalekolaaaGreatDoor
open Go.RowKit
set_option linter.unusedVariables false
set_option linter.unusedSimpArgs false

/-- So many marks. -/
def marksB (m : Nat) : ByteArray := ⟨(List.replicate m 43).toArray⟩
theorem marksB_size (m : Nat) : (marksB m).size = m := by simp [marksB, ByteArray.size]
theorem marksB_cut (m k : Nat) (h : k < m) : ((marksB m).extract k (k + 1)).toList = [43] := by
  rw [ba_toList, Lib.extract_data]
  simp [marksB]
  rw [show min 1 (m - k) = 1 by omega]
  rfl
theorem marksB_more (m : Nat) : marksB m ++ ⟨#[43]⟩ = marksB (m + 1) := by
  apply ByteArray.ext
  apply Array.toList_inj.1
  simp [marksB, List.replicate_succ']

set_option maxHeartbeats 1000000 in
theorem marks_any (m ops : Nat) (w : World) (hm : m ≤ ops) (ho : ops ≤ 2000000) :
    Calls Tryz.prog 171 #[.string (marksB m), .int .i64 ops] w fun e w' => e = .returned (.int .i64 m) ∧ w' = w := by
  have hsz := marksB_size m
  have HC := hidD (marksB_cut m)
  generalize marksB m = s at *
  go_enter Tryz.func171, Tryz.ntmps171
  go_wp2
  go_loopw [8] (fun i wr => ∃ k : Nat, k ≤ m ∧ i = .int .i64 k ∧ wr = w) (fun i _ => m - (intOf i).toNat)
  case atStart => exact ⟨0, Nat.zero_le _, rfl, rfl⟩
  case round =>
    obtain ⟨k, hk, rfl, rfl⟩ := hrel
    by_cases hlt : k < m
    · have h1 : ((k : Int) == (ops : Int)) = false := by simp; omega
      have h2 : (!(s.extract k (k + 1)).toList == [43]) = false := by rw [HC.out k hlt]; rfl
      have h3 : (k : Int) + 1 ≤ (s.size : Int) := by omega
      go_wp2
      exact ⟨⟨k + 1, by omega, by go_num, by first | rfl | trivial⟩, by simp [intOf]; omega⟩
    · go_wp2
      go_ret
      exact ⟨by first | rfl | rw [hsz] | (subst hsz; rfl), rfl⟩

theorem Vk.set3 {T : TypeId} {w : World} {vb : Nat} {v : Value} {fold : Bool} {space : Int} {x : Value} (h : Vk T w vb v fold space [x]) (y : Value) : Vk T (w.setCell ⟨vb, 3, none⟩ y) vb v fold space [y] ∧ w.grownBy (w.setCell ⟨vb, 3, none⟩ y) (some vb) := by
  constructor
  · have := heap_setCell_same w vb 3 _ T y h
    rw [Vk, this]; simp
  · exact ⟨rfl, rfl, rfl, by simp, fun k _ hk => heap_setCell_other w ⟨vb, 3, none⟩ k y (fun e => hk (by simp [e]))⟩

set_option maxHeartbeats 4000000 in
set_option maxRecDepth 100000 in
/-- step, where the mark is still to be put. -/
theorem step_mark {T : TypeId} {w : World} {vb : Nat} {v : Value} {fold : Bool} {space : Int} {m : Nat} (hk : Vk T w vb v fold space [.string (marksB m)]) (n : Nat) (o : OpD) (hn : m ≤ n) (hn2 : n ≤ 2000000) :
    Calls Tryz.prog 130 #[.pointer (some ⟨vb, 0, none⟩), .int .i64 n, .agg #[.int .i64 o.kind, .string o.path, .string o.dest, .int .i64 o.id, .int .i64 o.size, .int .i64 o.mode]] w fun r w' => r = .returned (.int .i64 0) ∧ Vk T w' vb v fold space [.string (marksB (m + 1))] ∧ w.grownBy w' (some vb) := by
  obtain ⟨kind, path, dest, id, size, mode⟩ := o
  dsimp only
  have ST : Hid (Ob w ⟨kind, path, dest, id, size, mode⟩ (w.alloc (.cells #[.int .i64 kind, .string path, .string dest, .int .i64 id, .int .i64 size, .int .i64 mode] 59))) := Ob.start w _
  have hlt := hk.lt
  have HK := hidD (hk.below ST.out.bel hlt)
  have c0 := HK.out.vol.c0
  have c3 := HK.out.c3
  have f3 := HK.out.frozen 3
  have hsz := marksB_size m
  have hmo := marksB_more m
  have HK0 := hidD hk
  clear hk
  generalize marksB m = s at *
  generalize marksB (m + 1) = s1 at *
  go_enter Tryz.func130, Tryz.ntmps130
  go_wp2
  go_ret
  obtain ⟨q1, q2⟩ := HK0.out.set3 (.string s1)
  refine ⟨rfl, q1.below ((Below.refl _ _).alloc (Nat.le_refl _) _) q1.lt, ⟨q2.os, q2.tape, q2.output, by simp only [World.size_alloc]; have := q2.size; omega, fun k hk hne => ((World.grownBy_alloc _ _ none).block k (Nat.lt_of_lt_of_le hk q2.size) (by simp)).trans (q2.block k hk hne)⟩⟩
end Go.Proofs.YtpjjagalekolaaaGreatDoor

/- A script's course, and the trees of its way one by one. -/
namespace Go.Proofs.YtpjjagalekolaaaGreatDoor
open Go.RowKit
set_option linter.unusedVariables false
set_option linter.unusedSimpArgs false

/-- What course answers, with all its trees. -/
def CrsW (w : World) (fold : Bool) (S : List EntD) (l : List OpD) (x : Except (Int × Int) (List EntD × Int)) (r : Ending) (w' : World) : Prop :=
  match x with
  | .error (c, k) => r = .returned (.tuple #[.slice none 0 0, .int .i64 c, .int .i64 k]) ∧ c ≠ 0 ∧ Below w.heap.size w w'
  | .ok _ => ∃ (g cap : Nat) (vs : List Value), r = .returned (.tuple #[.slice (some ⟨g, 0, none⟩) (l.length + 1) cap, .int .i64 0, .int .i64 0]) ∧ Below w.heap.size w w' ∧ w.heap.size ≤ g ∧ vs.length = l.length + 1 ∧ (∀ (j : Nat) (h : j < vs.length), w'.cell? ⟨g, j, none⟩ = some vs[j]) ∧ (∀ (j : Nat) (h : j < vs.length), RowAt w' vs[j] (wayT fold S l j)) ∧ (∀ j, j ≤ l.length → VolOk fold (wayT fold S l j)) ∧ (∀ (j : Nat) (h : j < l.length), doL fold 9223372036854775807 (wayT fold S l j) l[j] = .ok (wayT fold S l (j + 1)))

theorem way_formG {u : World} {B : Nat} {wv : Value} {vs : List Value} (h : u.ownsRow B 22 1 wv vs.length vs) (hn : 0 < vs.length) : ∃ g cap, wv = .slice (some ⟨g, 0, none⟩) vs.length cap ∧ B ≤ g ∧ ∀ (j : Nat) (h : j < vs.length), u.cell? ⟨g, j, none⟩ = some vs[j] := by
  obtain ⟨g, cap, rfl, hc⟩ := way_form h hn
  exact ⟨g, cap, rfl, (h.lt g rfl).1, hc⟩

/-- The trees so far are those of the way. -/
structure WayI (fold : Bool) (S : List EntD) (l : List OpD) (Ls : List (List EntD)) (k : Nat) (Lk : List EntD) : Prop where
  at_ : ∀ j, j ≤ k → Ls[j]? = some (wayT fold S l j)
  cur : Lk = wayT fold S l k
  ok : ∀ j, j ≤ k → VolOk fold (wayT fold S l j)
  done : ∀ (j : Nat) (h : j < l.length), j < k → doL fold 9223372036854775807 (wayT fold S l j) l[j] = .ok (wayT fold S l (j + 1))
theorem WayI.start {fold : Bool} {S : List EntD} {l : List OpD} (K : VolOk fold S) : WayI fold S l [S] 0 S where
  at_ := fun j hj => by obtain rfl : j = 0 := by omega
                        rfl
  cur := rfl
  ok := fun j hj => by obtain rfl : j = 0 := by omega
                       exact K
  done := fun j h hj => by omega
theorem WayI.next {fold : Bool} {S : List EntD} {l : List OpD} {Ls : List (List EntD)} {k : Nat} {Lk M : List EntD} (I : WayI fold S l Ls k Lk) (hl : Ls.length = k + 1) (hk : k < l.length) (hd : doL fold 9223372036854775807 Lk l[k] = .ok M) (KM : VolOk fold M) : WayI fold S l (Ls ++ [M]) (k + 1) M where
  at_ := fun j hj => by
    have hM := wayT_step hk (by rw [← I.cur]; exact hd)
    by_cases h : j ≤ k
    · rw [List.getElem?_append_left (by omega)]
      exact I.at_ j h
    · obtain rfl : j = k + 1 := by omega
      rw [hM, ← hl]
      simp
  cur := (wayT_step hk (by rw [← I.cur]; exact hd)).symm
  ok := fun j hj => by
    by_cases h : j ≤ k
    · exact I.ok j h
    · obtain rfl : j = k + 1 := by omega
      rw [wayT_step hk (by rw [← I.cur]; exact hd)]
      exact KM
  done := fun j h hj => by
    by_cases h' : j < k
    · exact I.done j h h'
    · obtain rfl : j = k := by omega
      rw [wayT_step hk (by rw [← I.cur]; exact hd), ← I.cur]
      exact hd

set_option maxHeartbeats 8000000 in
set_option maxRecDepth 100000 in
theorem vcourseW {w : World} {sv lv : Value} {L : List EntD} {l : List OpD} (fold : Bool) (hr : RowAt w sv L) (hs : SmallL L) (hg : Gd w) (ho : OpRow w lv l) (hl : l.length ≤ 2000000) (hos : ∀ o ∈ l, o.small) (X : Except (Int × Int) (List EntD × Int)) (hX : tryP fold 9223372036854775807 L l = X) :
    Calls Tryz.prog 68 #[sv, .bool fold, lv] w fun r w' => CrsW w fold L l X r w' := by
  obtain ⟨i0, hi, hz0, hz1, hz2⟩ := info_parts info22
  have HC := hidD (treesCheckF fold hr hs)
  have HW := hidD (fun (u : World) (hu : Below w.heap.size w u) => firstWrongF (hg.below hu) (ho.below hu (Nat.le_refl _)) hl hos)
  have HX := hidD hX
  have HR := hidD hr
  have HO := hidD ho
  have HG := hidD hg
  have HOS := hidD hos
  obtain ⟨sa, sc, rfl⟩ := hr.val
  obtain ⟨la, lc, rfl⟩ := ho.val
  clear hX hr ho hg hos
  cases ht : treeF fold L
  · rw [ht] at HC
    have hX := HX.out
    rw [tryP, if_pos ht] at hX
    subst hX
    clear HX
    unfold CrsW
    go_enter Tryz.func68, Tryz.ntmps68
    go_wp2_with (go_at_call 56; refine HC.out.mono ?_; rintro r w1 ⟨c, k, rfl, hck, hb1⟩; have hcn : (c != 0) = true := (by simp only [bne, hck]; rfl))
    go_ret3
    exact ⟨rfl, by decide, hb1⟩
  · rw [ht] at HC
    have HT := hidD ht
    have hX := HX.out
    rw [tryP, if_neg (by rw [ht]; decide)] at hX
    clear ht
    cases hf : (fwrong l 0).2
    · have hsg := script_good hf
      rw [if_neg (by rw [hf]; decide)] at hX
      rw [hf] at HW
      have HX2 := hidD hX
      have HSG := hidD hsg.2
      have hl4 := hsg.1
      clear hX hsg HX hf
      generalize (fwrong l 0).1 = fa at *
      go_enter Tryz.func68, Tryz.ntmps68
      go_wp2_with (first | (go_at_call 56; refine HC.out.mono ?_; rintro r w1 ⟨c, k, rfl, hck, hb1⟩; have hcn : (c != 0) = false := (by simp only [bne, hck]; rfl)) | (go_at_call 115; refine (HW.out _ hb1).mono ?_; rintro r w2 ⟨rfl, hb2⟩; have u2 := hb1.trans (hb2.mono hb1.size)))
      have s3 := WaySt.start (fold := fold) HR.out u2
      have K0 := tree_vol HT.out
      have hn0 : needL 0 [L] = usedL L := by
        have := (used_le K0).1
        simp only [needL, List.foldl_cons, List.foldl_nil]
        omega
      have I0 := hidD (show VolOk fold L ∧ (∀ N ∈ [L], VolOk fold N) ∧ [L][0]? = some L ∧ tryL fold 9223372036854775807 L (usedL L) l 0 = tryL fold 9223372036854775807 L (needL 0 [L]) (l.drop 0) 0 from ⟨K0, by simpa using K0, rfl, by rw [hn0, List.drop_zero]⟩)
      have J0 := hidD (WayI.start (l := l) K0)
      have S3 := hidD s3
      have hvbs := u2.size
      clear hn0 K0 s3 HC HW hb1 hb2 u2 hcn hck
      generalize hvb : w2.heap.size = vb at *
      go_loopw [14, 40] (fun wv iv wr => ∃ (k : Nat) (vs : List Value) (Ls : List (List EntD)) (v : Value) (Lk : List EntD), k ≤ l.length ∧ iv = .int .i64 k ∧ vs.length = k + 1 ∧ Hid (WaySt w vb fold wr wv vs Ls v Lk) ∧ Hid (VolOk fold Lk ∧ (∀ N ∈ Ls, VolOk fold N) ∧ Ls[k]? = some Lk ∧ tryL fold 9223372036854775807 L (usedL L) l 0 = tryL fold 9223372036854775807 Lk (needL 0 Ls) (l.drop k) k) ∧ Hid (WayI fold L l Ls k Lk)) (fun _ iv _ => l.length - (intOf iv).toNat)
      case atStart => exact ⟨0, _, _, _, _, Nat.zero_le _, rfl, rfl, S3, I0, J0⟩
      case round =>
        clear S3 I0 J0
        obtain ⟨k, vs, Ls, v, Lk, hk, rfl, hvl, S, I, J⟩ := hrel
        by_cases hlk : k < l.length
        · obtain ⟨b2, off2, rfl, _, hlb2, hops⟩ := op_parts HO.out hlk
          have hcw := (hops.below S.out.bel hlb2) k hlk
          have c0 : wr.cell? ⟨b2, off2 + k * 6, none⟩ = some (.int .i64 l[k].kind) := hcw 0 _ rfl
          have c1 := hcw 1 _ rfl
          have c2 := hcw 2 _ rfl
          have c3 := hcw 3 _ rfl
          have c4 := hcw 4 _ rfl
          have c5 := hcw 5 _ rfl
          have hok := HSG.out _ (List.getElem_mem hlk)
          have hsm := HOS.out _ (List.getElem_mem hlk)
          have HTS := hidD (fun need => try_step (fold := fold) (space := 9223372036854775807) (L := Lk) (need := need) hlk)
          have hlL : Ls.length = k + 1 := by have := S.out.len; omega
          have JN := hidD (fun (M : List EntD) (hd : doL fold 9223372036854775807 Lk l[k] = .ok M) (KM : VolOk fold M) => J.out.next hlL hlk hd KM)
          generalize l[k] = o at *
          clear hcw hops
          have S1 := hidD (S.out.below ((Below.refl _ _).alloc (Nat.le_refl _) (.cells #[.int .i64 o.kind, .string o.path, .string o.dest, .int .i64 o.id, .int .i64 o.size, .int .i64 o.mode] 59)))
          have HD := hidD (vDo S1.out.vol (row_of S1.out.bel S1.out.cur) I.out.1 (HG.out.below S1.out.bel) o hok hsm (by decide) (by decide))
          have hsz := S1.out.bel.size
          cases hd : doL fold 9223372036854775807 Lk o with
          | error n =>
            have hn : (n != 0) = true := by simpa using do_err hd
            have hXE : X = .error (n, (k : Int)) := by
              rw [← HX2.out, I.out.2.2.2, HTS.out, hd]
            have HXE := hidD hXE
            have hn0 := do_err hd
            rw [hd] at HD
            unfold DoA at HD
            clear hXE hd HX2
            go_wp2_with (go_at_call 45; refine HD.out.mono ?_; rintro r w5 ⟨rfl, hb5⟩)
            go_ret3
            rw [HXE.out]
            exact ⟨rfl, hn0, (S1.out.below hb5).bel⟩
          | ok M =>
            have KM := do_ok I.out.1 (okOp_good hok) hd
            have I2 := hidD (show VolOk fold M ∧ (∀ N ∈ Ls ++ [M], VolOk fold N) ∧ (Ls ++ [M])[k + 1]? = some M ∧ tryL fold 9223372036854775807 L (usedL L) l 0 = tryL fold 9223372036854775807 M (needL 0 (Ls ++ [M])) (l.drop (k + 1)) (k + 1) from ⟨KM, fun N hN => by
                rcases List.mem_append.1 hN with h | h
                · exact I.out.2.1 N h
                · rw [List.mem_singleton.1 h]; exact KM, by rw [← hvl, S.out.len]; simp, by rw [I.out.2.2.2, HTS.out, hd, needL_snoc]⟩)
            have J2 := hidD (JN.out M hd KM)
            rw [hd] at HD
            unfold DoA at HD
            clear hd KM HTS JN J
            go_wp2_with (first | (go_at_call 45; refine HD.out.mono ?_; rintro r w5 ⟨rfl, v5, hk5, ho5, hg5⟩; obtain ⟨a5, n5, q5, hv5⟩ := own_shape ho5; subst hv5; have S5 := S1.out.did hk5 ho5 hg5; have e0 := hk5.vol.c0; have hw5 := S5.bel.size) | (at_builtin; refine wpList_append_own _ rfl (.tmp 51) (.tmp 54) 79 rfl w.heap.size 22 i0 _ 1 24 Tryz.underlying79 hi hz0 hz1 hz2 rfl (by decide) _ _ _ rfl (S5.way.alloc _) ⟨_, 0, none⟩ 1 1 [.slice a5 n5 q5] rfl rfl (cell_new22 w5 _) (by intro x hx; rw [List.mem_singleton.1 hx]; rfl) (by unfold maxLen; omega) (by omega) (by simp only [World.size_alloc]; omega) ?_; intro v6 w6 hown6 hg6 _))
            exact ⟨⟨k + 1, _, _, _, _, by omega, by go_num, by rw [List.length_append, hvl]; rfl, hidD ((S5.below ((Below.refl _ _).alloc (Nat.le_refl _) _)).put hown6 hg6), I2, J2⟩, by simp [intOf]; omega⟩
        · obtain ⟨g, cap, hwv, hgg, hcells⟩ := way_formG S.out.way (by omega)
          subst hwv
          obtain rfl : k = l.length := by omega
          have hXE : X = .ok (Lk, needL 0 Ls) := by
            rw [← HX2.out, I.out.2.2.2, List.drop_length, tryL]
          have HXE := hidD hXE
          have HCE := hidD hcells
          clear hXE HX2 hcells
          go_wp2
          go_ret3
          rw [HXE.out]
          have hL := S.out.len
          refine ⟨g, cap, vs, by rw [hvl]; rfl, S.out.bel, hgg, hvl, HCE.out, fun j h1 => ?_, J.out.ok, fun j h => J.out.done j h h⟩
          have h2 : j < Ls.length := by omega
          have hj := row_of S.out.bel (S.out.rows j h1 h2)
          have e : Ls[j] = wayT fold L l j := by
            have := J.out.at_ j (by omega)
            rw [List.getElem?_eq_getElem h2] at this
            exact Option.some.inj this
          rwa [e] at hj
    · rw [if_pos hf] at hX
      rw [hf] at HW
      clear HX hf
      generalize (fwrong l 0).1 = fa at *
      subst hX
      unfold CrsW
      go_enter Tryz.func68, Tryz.ntmps68
      go_wp2_with (first | (go_at_call 56; refine HC.out.mono ?_; rintro r w1 ⟨c, k, rfl, hck, hb1⟩; have hcn : (c != 0) = false := (by simp only [bne, hck]; rfl)) | (go_at_call 115; refine (HW.out _ hb1).mono ?_; rintro r w2 ⟨rfl, hb2⟩; have u2 := hb1.trans (hb2.mono hb1.size)))
      go_ret3
      exact ⟨rfl, by decide, u2⟩
end Go.Proofs.YtpjjagalekolaaaGreatDoor

/- The program's Check of what a volume holds. -/
namespace Go.Proofs.YtpjjagalekolaaaGreatDoor
open Go.RowKit
set_option linter.unusedVariables false
set_option linter.unusedSimpArgs false

theorem entErrF_any (fold : Bool) (b off cap : Nat) (l : List EntD) (i : Nat) (e : EntD) (w : World) (hi : i < l.length) (hx : l[i] = e) (hl : l.length ≤ 2000000) (hcap : l.length ≤ cap) (hs : ∀ o ∈ l, o.small) (hb : b < w.heap.size) (hc : EntsAt w b off l) :
    Calls Tryz.prog 137 #[.slice (some ⟨b, off, none⟩) l.length cap, .int .i64 i, .bool fold] w fun r w' => r = .returned (.int .i64 (entErr l i e fold)) ∧ Below w.heap.size w w' := by
  cases fold
  · exact entryError_any b off cap l i e w hi hx hl hcap hs hb hc
  · exact entErrT_any b off cap l i e w hi hx hl hcap hs hb hc

def chkAtH (fold : Bool) (l : List EntD) (i : Nat) (e : EntD) : Int := if holdB e = false then 1 else entErr l i e fold
def chkGoH (fold : Bool) (l : List EntD) : List EntD → Nat → Int × Int
  | [], _ => (0, 0)
  | e :: t, i => if chkAtH fold l i e = 0 then chkGoH fold l t (i + 1) else (chkAtH fold l i e, i)
def chkPH (fold : Bool) (l : List EntD) : Int × Int := if 120 < l.length then (5, 0) else chkGoH fold l l 0
theorem chkGoH_at (fold : Bool) (l : List EntD) (k : Nat) (h : k < l.length) : chkGoH fold l (l.drop k) k = if chkAtH fold l k l[k] = 0 then chkGoH fold l (l.drop (k + 1)) (k + 1) else (chkAtH fold l k l[k], (k : Int)) := by
  rw [List.drop_eq_getElem_cons h, chkGoH]

set_option maxHeartbeats 2000000 in
theorem checkH_any (fold : Bool) (b off cap : Nat) (l : List EntD) (w : World) (hl : l.length ≤ 2000000) (hcap : l.length ≤ cap) (hs : ∀ o ∈ l, o.small) (hb : b < w.heap.size) (hc : EntsAt w b off l) :
    Calls Tryz.prog 89 #[.slice (some ⟨b, off, none⟩) l.length cap, .bool fold, .int .i64 120, .func (.func 116) #[] #[]] w fun e w' => e = .returned (.tuple #[.int .i64 (chkPH fold l).1, .int .i64 (chkPH fold l).2]) ∧ Below w.heap.size w w' := by
  by_cases h6 : (120 : Int) < l.length
  · have hv : chkPH fold l = (5, 0) := by rw [chkPH, if_pos (by omega)]
    rw [hv]
    go_enter Tryz.func89, Tryz.ntmps89
    go_wp2
    go_ret2
    exact ⟨rfl, Below.refl _ _⟩
  · have hv : chkPH fold l = chkGoH fold l l 0 := by rw [chkPH, if_neg (by omega)]
    rw [hv]
    go_enter Tryz.func89, Tryz.ntmps89
    go_wp2
    go_loopw [18] (fun i wr => ∃ k : Nat, k ≤ l.length ∧ i = .int .i64 k ∧ chkGoH fold l l 0 = chkGoH fold l (l.drop k) k ∧ Below w.heap.size w wr) (fun i _ => l.length - (intOf i).toNat)
    case atStart => exact ⟨0, Nat.zero_le _, rfl, rfl, Below.refl _ _⟩
    case round =>
      obtain ⟨k, hk, rfl, hd, hbw⟩ := hrel
      have HD : Hid (chkGoH fold l l 0 = chkGoH fold l (l.drop k) k) := hd
      clear hd
      have hbs := hbw.size
      by_cases hlt : k < l.length
      · have HSN := chkGoH_at fold l k hlt
        have hcw := (hc.below hbw hb) k hlt
        have hsm := hs _ (List.getElem_mem hlt)
        generalize hx : l[k] = o at *
        have HS : Hid (chkGoH fold l (l.drop k) k = if chkAtH fold l k o = 0 then chkGoH fold l (l.drop (k + 1)) (k + 1) else (chkAtH fold l k o, (k : Int))) := HSN
        clear HSN
        have c0 := hcw 0 _ rfl
        have c1 := hcw 1 _ rfl
        have c2 := hcw 2 _ rfl
        have c3 := hcw 3 _ rfl
        have c4 := hcw 4 _ rfl
        simp only [Nat.add_zero] at c0
        clear hcw
        by_cases hn : holdB o = true
        · have hA : chkAtH fold l k o = entErr l k o fold := by rw [chkAtH, hn, if_neg (by simp)]
          by_cases he : entErr l k o fold = 0
          · go_wp2_with (first | (go_at_call 116; refine (mayHold_any o _ hsm).mono ?_; rintro e w1 ⟨rfl, hb1⟩; rw [hn]) | (go_at_call 137; refine (entErrF_any fold b off cap l k o _ hlt hx hl hcap hs (by have := hb1.size; omega) (hc.below (hbw.trans (hb1.mono hbs)) hb)).mono ?_; rintro e w2 ⟨rfl, hb2⟩; rw [he]))
            have hb3 := (hbw.trans (hb1.mono hbs)).trans (hb2.mono (by have := hb1.size; omega))
            exact ⟨⟨k + 1, by omega, by go_num, by rw [HD.out, HS.out, hA, if_pos he], hb3⟩, by simp [intOf]; omega⟩
          · have he' : (entErr l k o fold != 0) = true := by simpa using he
            go_wp2_with (first | (go_at_call 116; refine (mayHold_any o _ hsm).mono ?_; rintro e w1 ⟨rfl, hb1⟩; rw [hn]) | (go_at_call 137; refine (entErrF_any fold b off cap l k o _ hlt hx hl hcap hs (by have := hb1.size; omega) (hc.below (hbw.trans (hb1.mono hbs)) hb)).mono ?_; rintro e w2 ⟨rfl, hb2⟩))
            go_ret2
            have hb3 := (hbw.trans (hb1.mono hbs)).trans (hb2.mono (by have := hb1.size; omega))
            refine ⟨?_, hb3⟩
            rw [HD.out, HS.out, hA, if_neg he]; rfl
        · simp only [Bool.not_eq_true] at hn
          have hA : chkAtH fold l k o = 1 := by rw [chkAtH, if_pos hn]
          go_wp2_with (go_at_call 116; refine (mayHold_any o _ hsm).mono ?_; rintro e w1 ⟨rfl, hb1⟩; rw [hn])
          go_ret2
          refine ⟨?_, hbw.trans (hb1.mono hbs)⟩
          rw [HD.out, HS.out, hA, if_neg (by omega)]; rfl
      · go_wp2
        go_ret2
        refine ⟨?_, hbw⟩
        rw [HD.out, List.drop_of_length_le (by omega), chkGoH]; rfl

set_option maxHeartbeats 1000000 in
theorem checkH_nil (fold : Bool) (w : World) :
    Calls Tryz.prog 89 #[.slice none 0 0, .bool fold, .int .i64 120, .func (.func 116) #[] #[]] w fun e w' => e = .returned (.tuple #[.int .i64 0, .int .i64 0]) ∧ w' = w := by
  go_enter Tryz.func89, Tryz.ntmps89
  go_wp2
  refine wp_loop_rounds 1 ?_
  rw [rounds_succ]
  go_wp2
  go_ret2
  exact ⟨rfl, rfl⟩

/-- May a volume hold it? -/
def heldF (fold : Bool) (l : List EntD) : Bool := (chkPH fold l).1 == 0
set_option maxHeartbeats 1000000 in
theorem checkHeld_of {w : World} {v : Value} {fold : Bool} {c k : Int} (H : Calls Tryz.prog 89 #[v, .bool fold, .int .i64 120, .func (.func 116) #[] #[]] w fun e w' => e = .returned (.tuple #[.int .i64 c, .int .i64 k]) ∧ Below w.heap.size w w') :
    Calls Tryz.prog 71 #[v, .bool fold] w fun e w' => e = .returned (.tuple #[.int .i64 c, .int .i64 k]) ∧ Below w.heap.size w w' := by
  have HH := hidD H
  clear H
  go_enter Tryz.func71, Tryz.ntmps71
  go_wp2_with (go_at_call 89; refine HH.out.mono ?_; rintro e w1 ⟨rfl, hb1⟩)
  go_ret2
  exact ⟨rfl, hb1⟩
theorem checkHeldF {w : World} {v : Value} {L : List EntD} (fold : Bool) (hr : RowAt w v L) (hs : SmallL L) :
    Calls Tryz.prog 71 #[v, .bool fold] w fun e w' => ∃ c k : Int, e = .returned (.tuple #[.int .i64 c, .int .i64 k]) ∧ (c == 0) = heldF fold L ∧ Below w.heap.size w w' := by
  cases hr with
  | nil => exact (checkHeld_of ((checkH_nil fold w).mono (by rintro e w' ⟨rfl, rfl⟩; exact ⟨rfl, Below.refl _ _⟩))).mono (by rintro e w' ⟨rfl, hb⟩; exact ⟨_, _, rfl, rfl, hb⟩)
  | row b off cap l hlb hc hm h => exact (checkHeld_of (checkH_any fold b off cap L w hs.1 hc hs.2 hlb h)).mono (by rintro e w' ⟨rfl, hb⟩; exact ⟨_, _, rfl, rfl, hb⟩)
end Go.Proofs.YtpjjagalekolaaaGreatDoor

