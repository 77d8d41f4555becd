/- A volume's Do at whatever block it lies in; convoy's Do, Tree and Journal. -/
import Derived.Test.YtehkdjdflgknnaaGreatDoorY19VZ2
import Derived.Deep.RegionWith
namespace Go.Proofs.YtehkdjdflgknnaaGreatDoor
open Go.RowKit
set_option linter.unusedVariables false
set_option linter.unusedSimpArgs false

set_option maxHeartbeats 4000000 in
set_option maxRecDepth 100000 in
theorem vDoT_of {T : TypeId} {w : World} {vb : Nat} {v : Value} {fold : Bool} {space : Int} {rest : List Value} (hv : Vk T w vb v fold space rest) (kind : Int) (path dest : ByteArray) (id size mode : Int) (x : Except Int (List EntD))
    (H1 : ∀ u : World, Below w.heap.size w u → Calls Tryz.prog 60 #[.agg #[.int .i64 kind, .string path, .string dest, .int .i64 id, .int .i64 size, .int .i64 mode]] u fun e w' => e = .returned (.bool true) ∧ Below u.heap.size u w')
    (H2 : ∀ u : World, Below w.heap.size w u → Calls Tryz.prog 61 #[.pointer (some ⟨vb, 0, none⟩), .agg #[.int .i64 kind, .string path, .string dest, .int .i64 id, .int .i64 size, .int .i64 mode]] u fun r w' => Ans u.heap.size x r w' ∧ Below u.heap.size u w')
    (hx : ∀ n, x = .error n → n ≠ 0) :
    Calls Tryz.prog 39 #[.pointer (some ⟨vb, 0, none⟩), .agg #[.int .i64 kind, .string path, .string dest, .int .i64 id, .int .i64 size, .int .i64 mode]] w fun r w' => DoA T w vb fold space rest x r w' := by
  have ST := hidD (Ob.start w ⟨kind, path, dest, id, size, mode⟩)
  have HA := hidD H1
  have HB := hidD H2
  have HV := hidD hv
  have hvlt := hv.lt
  clear H1 H2 hv
  cases x with
  | error n =>
    have hn : (n == 0) = false := by simpa using hx n rfl
    clear hx
    unfold Ans at HB
    unfold DoA
    go_enter Tryz.func39, Tryz.ntmps39
    go_wp2_with (first | (go_at_call 60; refine (HA.out _ ST.out.bel).mono ?_; rintro r w1 ⟨rfl, hb1⟩; have s1 := ST.out.below hb1; have d0 := s1.cell 0; have d1 := s1.cell 1; have d2 := s1.cell 2; have d3 := s1.cell 3; have d4 := s1.cell 4; have d5 := s1.cell 5; simp [OpD.cells] at d0 d1 d2 d3 d4 d5) | (go_at_call 61; refine (HB.out _ s1.bel).mono ?_; rintro r w2 ⟨rfl, hb2⟩; have s2 := s1.below hb2))
    go_ret
    exact ⟨rfl, s2.bel⟩
  | ok M =>
    clear hx
    unfold Ans at HB
    unfold DoA
    go_enter Tryz.func39, Tryz.ntmps39
    go_wp2_with (first | (go_at_call 60; refine (HA.out _ ST.out.bel).mono ?_; rintro r w1 ⟨rfl, hb1⟩; have s1 := ST.out.below hb1; have d0 := s1.cell 0; have d1 := s1.cell 1; have d2 := s1.cell 2; have d3 := s1.cell 3; have d4 := s1.cell 4; have d5 := s1.cell 5; simp [OpD.cells] at d0 d1 d2 d3 d4 d5) | (go_at_call 61; refine (HB.out _ s1.bel).mono ?_; rintro r w2 ⟨⟨v2, rfl, hown2⟩, hb2⟩; have s2 := s1.below hb2; obtain ⟨a2, m2, c2, hv2⟩ := own_shape hown2; subst hv2; have k2 := HV.out.below s2.bel hvlt; have f2 := k2.frozen 0; have e2 := k2.vol.c0))
    go_ret
    obtain ⟨q1, q2⟩ := k2.set (.slice a2 m2 c2)
    refine ⟨rfl, _, q1, ?_, grown_of s2.bel q2⟩
    have h3 := own_mono hown2 s1.bel.size
    refine h3.kept q2 ?_
    cases hb : (Value.slice a2 m2 c2).ownBlock with
    | none => exact .inl rfl
    | some g => exact .inr (fun e => by have := (h3.lt g hb).1; cases e; omega)
theorem vDoT_good {T : TypeId} {u : World} {vb : Nat} {v : Value} {L : List EntD} {fold : Bool} {space : Int} {rest : List Value} (hk : Vk T u vb v fold space rest) (hr : RowAt u v L) (K : VolOk fold L) (hg : Gd u) (o : OpD) (hok : okOp o = true) (hsm : o.small) (h0 : 0 ≤ space) (h1 : space ≤ 9223372036854775807) :
    Calls Tryz.prog 39 #[.pointer (some ⟨vb, 0, none⟩), .agg #[.int .i64 o.kind, .string o.path, .string o.dest, .int .i64 o.id, .int .i64 o.size, .int .i64 o.mode]] u fun r w' => DoA T u vb fold space rest (doL fold space L o) r w' := by
  refine vDoT_of hk o.kind o.path o.dest o.id o.size o.mode _ (fun u1 hu => ?_) (fun u1 hu => ?_) (fun n hn => do_err hn)
  · have := isOp_any o u1 (hg.below hu) hsm
    rwa [hok] at this
  · refine vafter o.kind o.path o.dest o.id o.size o.mode (okOp_good hok).kinds _ (fun u2 hu2 => ?_)
    have hu' : Below u.heap.size u u2 := hu.trans (hu2.mono hu.size)
    exact vops (Vm.of K (hk.vol.below hu' hk.lt) (hr.below hu' (Nat.le_refl _)) h0 h1) K o hsm (okOp_good hok)

/-- What a volume answers to whatever operation. -/
def doesL (fold : Bool) (space : Int) (L : List EntD) (o : OpD) : Except Int (List EntD) := if okOp o = true then doL fold space L o else .error 18

set_option maxHeartbeats 4000000 in
set_option maxRecDepth 100000 in
theorem vDoT_bad {w : World} (vb : Nat) (o : OpD) (hg : Gd w) (hsm : o.small) (hok : okOp o = false) :
    Calls Tryz.prog 39 #[.pointer (some ⟨vb, 0, none⟩), .agg #[.int .i64 o.kind, .string o.path, .string o.dest, .int .i64 o.id, .int .i64 o.size, .int .i64 o.mode]] w fun r w' => r = .returned (.int .i64 18) ∧ Below w.heap.size w w' := by
  have ST := hidD (Ob.start w o)
  have HA := hidD (fun (u : World) (hu : Below w.heap.size w u) => isOp_any o u (hg.below hu) hsm)
  rw [hok] at HA
  obtain ⟨kind, path, dest, id, size, mode⟩ := o
  dsimp only at *
  clear hg
  go_enter Tryz.func39, Tryz.ntmps39
  go_wp2_with (go_at_call 60; refine (HA.out _ ST.out.bel).mono ?_; rintro r w1 ⟨rfl, hb1⟩; have s1 := ST.out.below hb1)
  go_ret
  exact ⟨rfl, s1.bel⟩
theorem vDoT {T : TypeId} {u : World} {vb : Nat} {v : Value} {L : List EntD} {fold : Bool} {space : Int} {rest : List Value} (hk : Vk T u vb v fold space rest) (hr : RowAt u v L) (K : VolOk fold L) (hg : Gd u) (o : OpD) (hsm : o.small) (h0 : 0 ≤ space) (h1 : space ≤ 9223372036854775807) :
    Calls Tryz.prog 39 #[.pointer (some ⟨vb, 0, none⟩), .agg #[.int .i64 o.kind, .string o.path, .string o.dest, .int .i64 o.id, .int .i64 o.size, .int .i64 o.mode]] u fun r w' => DoA T u vb fold space rest (doesL fold space L o) r w' := by
  unfold doesL
  cases hok : okOp o
  · rw [if_neg (by decide)]
    exact vDoT_bad vb o hg hsm hok
  · rw [if_pos rfl]
    exact vDoT_good hk hr K hg o hok hsm h0 h1

theorem DoA.retD {T : TypeId} {w : World} {vb : Nat} {fold : Bool} {space : Int} {rest : List Value} {x : Except Int (List EntD)} {r : Ending} {w' : World} (h : DoA T w vb fold space rest x r w') : ∃ n : Int, r = .returned (.int .i64 n) := by
  cases x with
  | error n => exact ⟨n, h.1⟩
  | ok M => exact ⟨0, h.1⟩
theorem DoA.from_below {T : TypeId} {w u : World} {vb : Nat} {fold : Bool} {space : Int} {rest : List Value} {x : Except Int (List EntD)} {r : Ending} {w' : World} (hb : Below w.heap.size w u) (h : DoA T u vb fold space rest x r w') : DoA T w vb fold space rest x r w' := by
  cases x with
  | error n => exact ⟨h.1, hb.trans (h.2.mono hb.size)⟩
  | ok M =>
    obtain ⟨h1, v', h2, h3, h4⟩ := h
    exact ⟨h1, v', h2, own_mono h3 hb.size, grown_of hb h4⟩

set_option maxHeartbeats 4000000 in
set_option maxRecDepth 100000 in
/-- convoy's Do. -/
theorem cDo {u : World} {vb : Nat} {v : Value} {L : List EntD} {fold : Bool} {space : Int} {rest : List Value} (hk : Vk 92 u vb v fold space rest) (hr : RowAt u v L) (K : VolOk fold L) (hg : Gd u) (o : OpD) (hsm : o.small) (h0 : 0 ≤ space) (h1 : space ≤ 9223372036854775807) :
    Calls Tryz.prog 22 #[.pointer (some ⟨vb, 0, none⟩), .agg #[.int .i64 o.kind, .string o.path, .string o.dest, .int .i64 o.id, .int .i64 o.size, .int .i64 o.mode]] u fun r w' => DoA 92 u vb fold space rest (doesL fold space L o) r w' := by
  have ST := hidD (Ob.start u o)
  have HD := hidD (fun (w1 : World) (hb : Below u.heap.size u w1) => vDoT (hk.below hb hk.lt) (hr.below hb (Nat.le_refl _)) K (hg.below hb) o hsm h0 h1)
  have hc := hk.vol.c0
  have hlt := hk.lt
  obtain ⟨kind, path, dest, id, size, mode⟩ := o
  dsimp only at *
  clear hk hr K hg
  generalize doesL fold space L ⟨kind, path, dest, id, size, mode⟩ = X at *
  go_enter Tryz.func22, Tryz.ntmps22
  go_wp2
  go_region_with (go_at_call 39; refine (HD.out _ (ST.out.drewN 1).bel).mono ?_; intro r w1 hd; obtain ⟨n, hr⟩ := hd.retD; subst hr)
  all_goals go_wp2
  all_goals go_ret
  all_goals exact DoA.from_below (ST.out.drewN 1).bel hd

set_option maxHeartbeats 4000000 in
theorem vTree {T : TypeId} {w : World} {vb : Nat} {v : Value} {L : List EntD} {fold : Bool} {space : Int} {rest : List Value} (hk : Vk T w vb v fold space rest) (hr : RowAt w v L) (hl : L.length ≤ 1000) :
    Calls Tryz.prog 41 #[.pointer (some ⟨vb, 0, none⟩)] w fun e w' => ∃ v', e = .returned v' ∧ w'.ownsRow w.heap.size 75 5 v' L.length (flatE L) ∧ Below w.heap.size w w' := by
  have HC := hidD (vclone hr hl)
  have c0 := hk.vol.c0
  obtain ⟨a, c, rfl⟩ := hr.val
  clear hk hr
  go_enter Tryz.func41, Tryz.ntmps41
  go_wp2_with (go_at_call 49; refine HC.out.mono ?_; rintro r w1 ⟨v1, rfl, hown1, hb1⟩; obtain ⟨a4, n4, q4, hv4⟩ := own_shape hown1; subst hv4)
  go_ret
  exact ⟨_, rfl, hown1, hb1⟩
set_option maxHeartbeats 4000000 in
theorem cTree {w : World} {vb : Nat} {v : Value} {L : List EntD} {fold : Bool} {space : Int} {rest : List Value} (hk : Vk 92 w vb v fold space rest) (hr : RowAt w v L) (hl : L.length ≤ 1000) :
    Calls Tryz.prog 24 #[.pointer (some ⟨vb, 0, none⟩)] w fun e w' => ∃ v', e = .returned v' ∧ w'.ownsRow w.heap.size 75 5 v' L.length (flatE L) ∧ Below w.heap.size w w' := by
  have HC := hidD (vTree hk hr hl)
  have c0 := hk.vol.c0
  clear hk hr
  go_enter Tryz.func24, Tryz.ntmps24
  go_wp2_with (go_at_call 41; refine HC.out.mono ?_; rintro r w1 ⟨v1, rfl, hown1, hb1⟩; obtain ⟨a4, n4, q4, hv4⟩ := own_shape hown1; subst hv4)
  go_ret
  exact ⟨_, rfl, hown1, hb1⟩
theorem Vk.c3 {T : TypeId} {w : World} {vb : Nat} {v : Value} {fold : Bool} {space : Int} {x : Value} {rest : List Value} (h : Vk T w vb v fold space (x :: rest)) : w.cell? ⟨vb, 3, none⟩ = some x := by rw [Lib.cell_of_heap h]; rfl
set_option maxHeartbeats 4000000 in
theorem vJournal {T : TypeId} {w : World} {vb : Nat} {v : Value} {fold : Bool} {space : Int} {j : ByteArray} {rest : List Value} (hk : Vk T w vb v fold space (.string j :: rest)) :
    Calls Tryz.prog 42 #[.pointer (some ⟨vb, 0, none⟩)] w fun e w' => e = .returned (.string j) ∧ w' = w := by
  have c0 := hk.vol.c0
  have c3 := hk.c3
  clear hk
  go_enter Tryz.func42, Tryz.ntmps42
  go_wp2
  go_ret
  exact ⟨rfl, rfl⟩
set_option maxHeartbeats 4000000 in
theorem cJournal {w : World} {vb : Nat} {v : Value} {fold : Bool} {space : Int} {j : ByteArray} {rest : List Value} (hk : Vk 92 w vb v fold space (.string j :: rest)) :
    Calls Tryz.prog 25 #[.pointer (some ⟨vb, 0, none⟩)] w fun e w' => e = .returned (.string j) ∧ w' = w := by
  have HC := hidD (vJournal hk)
  have c0 := hk.vol.c0
  clear hk
  go_enter Tryz.func25, Tryz.ntmps25
  go_wp2_with (go_at_call 42; refine HC.out.mono ?_; rintro r w1 ⟨rfl, rfl⟩)
  go_ret
  exact ⟨rfl, rfl⟩
end Go.Proofs.YtehkdjdflgknnaaGreatDoor
