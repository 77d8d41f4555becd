/- IM, IN, IO, IP: in one text. -/
import Derived.Test.YtpjjagalekolaaaGreatDoorP34
import Derived.Test.YtpjjagalekolaaaGreatDoorP32
/- The steps of a plan are taken in order. -/
namespace Go.Proofs.YtpjjagalekolaaaGreatDoor
open Go.RowKit
set_option linter.unusedVariables false
set_option linter.unusedSimpArgs false

def spAt (w : World) (R : Nat) : Nat := match w.cell? ⟨R, 3, none⟩ with | some (.int _ n) => n.toNat | _ => 0
theorem spAt_of {w : World} {R N : Nat} (h : w.cell? ⟨R, 3, none⟩ = some (.int .i64 (N : Int))) : spAt w R = N := by rw [spAt, h]; simp
theorem takeReady0 {u : World} {R : Nat} {x y z : Value} (h : Blk u R 153 [x, .slice none 0 0, y, z]) : Calls Tryz.prog 94 #[.pointer (some ⟨R, 0, none⟩)] u fun e w' => e = .returned (.tuple #[]) ∧ w' = u := by
  have d1 := h.cell 1 rfl
  clear h
  go_enter Tryz.func94, Tryz.ntmps94
  go_wp2_with fail
  refine wp_loop_rounds 1 ?_
  rw [rounds_succ]
  go_wp2_with fail
  refine (len80 _ _ _ _).mono ?_
  rintro e wz ⟨rfl, hwz⟩; rw [hwz]; clear hwz
  go_wp2_with fail
  refine bodyPost_end (results_none rfl _ _ _) rfl ?_
  exact ⟨rfl, rfl⟩
theorem knot0 {u : World} {R c : Nat} {a : Option Addr} {x y z : Value} (h : Blk u R 153 [.slice a 0 c, x, y, z]) : Calls Tryz.prog 95 #[.pointer (some ⟨R, 0, none⟩)] u fun e w' => e = .returned (.int .i64 (-1)) ∧ w' = u := by
  have d0 := h.cell 0 rfl
  clear h
  go_enter Tryz.func95, Tryz.ntmps95
  go_wp2_with fail
  refine wp_loop_rounds 1 ?_
  rw [rounds_succ]
  go_wp2_with fail
  go_ret
  exact ⟨rfl, rfl⟩
theorem fcur_none (fv : Nat → Value) : fcur (fun _ => false) fv = fv := by funext k; rfl

/-- What a plan comes to. -/
def PlanOk (fold : Bool) (Q : List EntD → Prop) (s t : List EntD) (ms : List Mean) (lv : Nat → Option Nat) (ops : List OpD) : Prop := Went fold Q s ops t ∧ ops.length ≤ 3 * s.length + t.length ∧ ∀ o ∈ ops, OpOf s t ms lv o

set_option maxHeartbeats 8000000 in
set_option maxRecDepth 100000 in
theorem inOrder0 {fold : Bool} {Q : List EntD → Prop} {s t : List EntD} {to fr : Nat → Option Nat} {lv cm : Nat → Option Nat} {fd md : Nat → List Nat} (H : Plan0 fold Q s t to fr [] lv cm fd md) (hf : ∀ x y, y ∉ fd x) (hm : ∀ x y, y ∉ md x) (w1 : World) (a : Option Addr) (c : Nat) :
    Calls Tryz.prog 58 #[.slice a 0 c] w1 fun e w' => ∃ v ops, e = .returned v ∧ w'.ownsRow w1.heap.size 59 6 v ops.length (flatOp ops) ∧ Below w1.heap.size w1 w' ∧ PlanOk fold Q s t [] lv ops := by
  have PO : Hid (PlanOk fold Q s t [] lv []) := by
    have U := H.begin (ws := fun _ => 1) (rd := []) (fun y hy => by simp at hy) List.nodup_nil (fun y => by simp) (fun x y h => absurd h (hf x y)) (fun x y h => absurd h (hm x y))
    exact U.finish H (fun k hk => by simp at hk)
  have hx := box_below w1 #[.slice a 0 c, .slice none 0 0, .slice none 0 0, .int .i64 0] 153
  have K := hidD (Blk.new w1 153 [.slice a 0 c, .slice none 0 0, .slice none 0 0, .int .i64 0])
  have HB := hidD hx
  have d2 := K.out.cell 2 rfl
  clear H hf hm hx
  go_enter Tryz.func58, Tryz.ntmps58
  go_wp2_with fail
  refine wp_loop_rounds 1 ?_
  rw [rounds_succ]
  go_wp2_with fail
  refine (takeReady0 K.out).mono ?_
  rintro e wz ⟨rfl, hwz⟩; rw [hwz]; clear hwz
  go_wp2_with fail
  refine (knot0 K.out).mono ?_
  rintro e wz ⟨rfl, hwz⟩; rw [hwz]; clear hwz
  go_wp2_with fail
  refine wp_loop_rounds 1 ?_
  rw [rounds_succ]
  go_wp2_with fail
  go_ret
  exact ⟨_, [], rfl, World.ownsRow_nil _ _ _ _, HB.out, PO.out⟩

set_option maxHeartbeats 16000000 in
set_option maxRecDepth 100000 in
theorem inOrderN {fold : Bool} {Q : List EntD → Prop} {s t : List EntD} {to fr : Nat → Option Nat} {ms : List Mean} {lv cm : Nat → Option Nat} {fd md : Nat → List Nat} (H : Plan0 fold Q s t to fr ms lv cm fd md) {w1 : World} {g c : Nat} {ws : Nat → Nat} {fv mv : Nat → Value} (hst : Blk w1 g 155 (stC (opAt s t ms (fun _ => none)) ws fv mv ms.length)) (F : Fix w1 g ms.length fv mv fd md) (hw : ∀ y, y < ms.length → ws y = cntE fd (fun _ => false) y ms.length + cntE md (fun _ => false) y ms.length) (hwb : ∀ y, ws y ≤ 1000000) (hf : ∀ x y, y ∈ fd x → x < ms.length ∧ y < ms.length) (hm : ∀ x y, y ∈ md x → x < ms.length ∧ y < ms.length) :
    Calls Tryz.prog 58 #[.slice (some ⟨g, 0, none⟩) ms.length c] w1 fun e w' => ∃ v ops, e = .returned v ∧ w'.ownsRow w1.heap.size 59 6 v ops.length (flatOp ops) ∧ Kpt w1 w' (fun b => b = g) ∧ PlanOk fold Q s t ms lv ops := by
  have hgl := hst.lt
  have hx := box_below w1 #[.slice (some ⟨g, 0, none⟩) ms.length c, .slice none 0 0, .slice none 0 0, .int .i64 0] 153
  have S0 : Hid (RM w1 (w1.alloc (.cells #[.slice (some ⟨g, 0, none⟩) ms.length c, .slice none 0 0, .slice none 0 0, .int .i64 0] 153)) w1.heap.size g c ms.length (opAt s t ms (fun _ => none)) ws fv mv (.slice none 0 0) [] (.slice none 0 0) [] 0) := ⟨Kpt.bel hx, Nat.le_refl _, hgl, Blk.new w1 153 [.slice (some ⟨g, 0, none⟩) ms.length c, .slice none 0 0, .slice none 0 0, .int .i64 0], hst.below hx, World.ownsRow_nil _ _ _ _, World.ownsRow_nil _ _ _ _⟩
  have HH := hidD H
  have HF := hidD F
  have HWB := hidD hwb
  have BG := hidD (fun (rd : List Nat) (h1 : rd.Nodup) (h2 : ∀ y, y ∈ rd ↔ y < ms.length ∧ ws y = 0) => H.begin (ws := ws) hw h1 h2 hf hm)
  have hbn := F.bn
  clear H F hw hwb hf hm hst hx
  go_enter Tryz.func58, Tryz.ntmps58
  go_wp2_with fail
  generalize hU : w1.alloc (.cells #[.slice (some ⟨g, 0, none⟩) ms.length c, .slice none 0 0, .slice none 0 0, .int .i64 0] 153) = U at *
  clear hU
  generalize hRR : w1.heap.size = R at S0 ⊢
  go_loopw [10] (fun iv wr => ∃ (i : Nat) (rdy : Value) (rx : List Nat), i ≤ ms.length ∧ iv = .int .i64 i ∧ Hid (RM w1 wr R g c ms.length (opAt s t ms (fun _ => none)) ws fv mv rdy rx (.slice none 0 0) [] 0) ∧ Hid (rx.Nodup ∧ ∀ y, y ∈ rx ↔ y < i ∧ ws y = 0)) (fun iv _ => ms.length - (intOf iv).toNat)
  case atStart => exact ⟨0, _, [], Nat.zero_le _, rfl, S0, ⟨List.nodup_nil, fun y => by simp⟩⟩
  case round =>
    clear S0
    obtain ⟨i, rdy, rx, hi, rfl, S, P⟩ := hrel
    by_cases hlt : i < ms.length
    · have cw : wr.cell? ⟨g, i * 9 + 6, none⟩ = some (.int .i64 ((ws i : Nat) : Int)) := S.out.st.cell _ ((stC_get hlt (by decide)).trans rfl)
      have hlt' : (i : Int) < (ms.length : Int) := by omega
      have hrl : rx.length ≤ 1000 := by
        have := nodup_lt ms.length rx P.out.1 (fun y hy => by have := (P.out.2 y).1 hy; omega)
        omega
      by_cases h0 : ws i = 0
      · rw [h0] at cw
        have HP := hidD (pushN S.out.q (Nat.le_trans S.out.gr.size (Nat.le_refl _)) hrl i)
        go_wp2_with fail
        refine HP.out.mono ?_
        rintro e w3 ⟨rfl, g3, c3, ys, hq, hp, hk, _⟩
        have S3 := hidD (S.out.queue hq hk)
        have P3 : Hid (ys.Nodup ∧ ∀ y, y ∈ ys ↔ y < i + 1 ∧ ws y = 0) := by
          refine ⟨hp.nodup_iff.2 (List.nodup_cons.2 ⟨fun h => ?_, P.out.1⟩), fun y => ?_⟩
          · have := ((P.out.2 i).1 h).1
            omega
          · rw [hp.mem_iff, List.mem_cons, P.out.2]
            constructor
            · rintro (rfl | h)
              · exact ⟨by omega, h0⟩
              · exact ⟨by omega, h.2⟩
            · intro h
              by_cases e : y = i
              · exact .inl e
              · exact .inr ⟨by omega, h.2⟩
        clear hq hk hp HP S
        go_wp2_with fail
        exact ⟨⟨i + 1, _, ys, by omega, by go_num, S3, P3⟩, by simp [intOf]; omega⟩
      · have hz : (((ws i : Nat) : Int) == 0) = false := by simp; omega
        have P3 : Hid (rx.Nodup ∧ ∀ y, y ∈ rx ↔ y < i + 1 ∧ ws y = 0) := by
          refine ⟨P.out.1, fun y => ?_⟩
          rw [P.out.2]
          constructor
          · intro h; exact ⟨by omega, h.2⟩
          · intro h
            refine ⟨?_, h.2⟩
            by_cases e : y = i
            · subst e; exact absurd h.2 h0
            · omega
        go_wp2_with fail
        exact ⟨⟨i + 1, rdy, rx, by omega, by go_num, S, P3⟩, by simp [intOf]; omega⟩
    · have hie : i = ms.length := by omega
      subst hie
      have X0 : Hid (RL fold Q s t to fr ms lv fd md w1 wr R g c fv mv (fun _ => false) (fun _ => false) rx (fun _ => none) 0 []) := ⟨ws, rdy, _, BG.out rx P.out.1 P.out.2, by rw [fcur_none]; exact S.out, HWB.out⟩
      clear S P BG
      go_wp2_with fail
      refine (takeReadyN HH.out HF.out X0.out).mono ?_
      rintro e w3 ⟨rfl, fz3, dn3, ops3, hX3⟩
      have X3 := hidD hX3
      clear hX3 X0
      go_wp2_with fail
      refine (knotN HH.out HF.out X3.out).mono ?_
      rintro e w4 ⟨hK, hb4⟩
      have X4 : Hid (RL fold Q s t to fr ms lv fd md w1 w4 R g c fv mv fz3 dn3 [] (fun _ => none) 0 ops3) := by
        obtain ⟨ws', rdy', opv', h1, h2, h3⟩ := X3.out
        exact ⟨ws', rdy', opv', h1, h2.below hb4, h3⟩
      obtain ⟨kv, hkv, hKK⟩ : ∃ kv : Int, e = .returned (.int .i64 kv) ∧ ((∃ k : Nat, k < ms.length ∧ kv = k ∧ Knot ms fz3 fd md k) ∨ (kv = -1 ∧ ∀ k, k < ms.length → ¬ Knot ms fz3 fd md k)) := by
        rcases hK with ⟨k, h1, h2, h3⟩ | ⟨h1, h2⟩
        · exact ⟨k, h2, .inl ⟨k, h1, rfl, h3⟩⟩
        · exact ⟨-1, h1, .inr ⟨rfl, h2⟩⟩
      subst hkv
      have KK := hidD hKK
      clear hK hb4 hKK X3
      go_wp2_with fail
      go_loopw [5] (fun v5 wr => ∃ (kv : Int) (fz dn : Nat → Bool) (A : Nat → Option Nat) (N : Nat) (ops : List OpD), v5 = .int .i64 kv ∧ Hid (RL fold Q s t to fr ms lv fd md w1 wr R g c fv mv fz dn [] A N ops) ∧ Hid ((∃ k : Nat, k < ms.length ∧ kv = k ∧ Knot ms fz fd md k) ∨ (kv = -1 ∧ ∀ k, k < ms.length → ¬ Knot ms fz fd md k))) (fun _ wr => 100 - spAt wr R)
      case atStart => exact ⟨kv, fz3, dn3, _, 0, ops3, rfl, X4, KK⟩
      case round =>
        clear X4 KK
        obtain ⟨kv, fz, dn, A, N, ops, rfl, X, K⟩ := hrel
        have hsp : spAt wr R = N := by
          obtain ⟨ws', rdy', opv', h1, h2, h3⟩ := X.out
          exact spAt_of (h2.r.cell 3 rfl)
        rcases K.out with ⟨k, hk, rfl, hKn⟩ | ⟨rfl, hno⟩
        · have hne : ((k : Int) != -1) = true := by simp
          have HA := hidD (stepAsideN HH.out HF.out X.out hk hKn)
          clear K hKn X
          go_wp2_with fail
          refine HA.out.mono ?_
          rintro e w5 ⟨rfl, fz5, rd5, A5, ops5, hX5, h60⟩
          have T5 := hidD (takeReadyN HH.out HF.out hX5)
          clear hX5 HA
          go_wp2_with fail
          refine T5.out.mono ?_
          rintro e w6 ⟨rfl, fz6, dn6, ops6, hX6⟩
          have X6 := hidD hX6
          clear hX6 T5
          go_wp2_with fail
          refine (knotN HH.out HF.out X6.out).mono ?_
          rintro e w7 ⟨hK, hb7⟩
          have X7 : Hid (RL fold Q s t to fr ms lv fd md w1 w7 R g c fv mv fz6 dn6 [] A5 (N + 1) ops6) := by
            obtain ⟨ws', rdy', opv', h1, h2, h3⟩ := X6.out
            exact ⟨ws', rdy', opv', h1, h2.below hb7, h3⟩
          have hsp7 : spAt w7 R = N + 1 := by
            obtain ⟨ws', rdy', opv', h1, h2, h3⟩ := X7.out
            exact spAt_of (h2.r.cell 3 rfl)
          obtain ⟨kv, hkv, hKK⟩ : ∃ kv : Int, e = .returned (.int .i64 kv) ∧ ((∃ k : Nat, k < ms.length ∧ kv = k ∧ Knot ms fz6 fd md k) ∨ (kv = -1 ∧ ∀ k, k < ms.length → ¬ Knot ms fz6 fd md k)) := by
            rcases hK with ⟨k, h1, h2, h3⟩ | ⟨h1, h2⟩
            · exact ⟨k, h2, .inl ⟨k, h1, rfl, h3⟩⟩
            · exact ⟨-1, h1, .inr ⟨rfl, h2⟩⟩
          subst hkv
          have KK := hidD hKK
          clear hK hb7 hKK X6
          go_wp2_with fail
          refine ⟨⟨kv, fz6, dn6, A5, N + 1, ops6, rfl, X7, KK⟩, ?_⟩
          rw [hsp, hsp7]
          omega
        · obtain ⟨ws', rdy', opv', h1, h2, h3⟩ := X.out
          have d2 := h2.r.cell 2 rfl
          obtain ⟨a2, c2, hv2⟩ := row_shape0 h2.po
          subst hv2
          have PO := hidD (h1.finish HH.out hno)
          have S2 := hidD h2
          clear h1 h2 h3 K X
          go_wp2_with fail
          go_ret
          exact ⟨_, ops, rfl, S2.out.po, S2.out.gr, PO.out⟩
end Go.Proofs.YtpjjagalekolaaaGreatDoor

/- So many numbers, none so far. -/
namespace Go.Proofs.YtpjjagalekolaaaGreatDoor
open Go.RowKit
set_option linter.unusedVariables false
set_option linter.unusedSimpArgs false

set_option maxHeartbeats 4000000 in
theorem mul64N (n : Nat) (h : n ≤ 60) (w : World) : Calls Tryz.prog 210 #[.int .u64 1, .int .u64 n] w fun e w' => e = .returned (.tuple #[.int .u64 0, .int .u64 n]) ∧ w' = w := by
  go_enter Tryz.func210, Tryz.ntmps210
  go_wp2
  go_ret2
  have hn : n = 0 ∨ n = 1 ∨ n = 2 ∨ n = 3 ∨ n = 4 ∨ n = 5 ∨ n = 6 ∨ n = 7 ∨ n = 8 ∨ n = 9 ∨ n = 10 ∨ n = 11 ∨ n = 12 ∨ n = 13 ∨ n = 14 ∨ n = 15 ∨ n = 16 ∨ n = 17 ∨ n = 18 ∨ n = 19 ∨ n = 20 ∨ n = 21 ∨ n = 22 ∨ n = 23 ∨ n = 24 ∨ n = 25 ∨ n = 26 ∨ n = 27 ∨ n = 28 ∨ n = 29 ∨ n = 30 ∨ n = 31 ∨ n = 32 ∨ n = 33 ∨ n = 34 ∨ n = 35 ∨ n = 36 ∨ n = 37 ∨ n = 38 ∨ n = 39 ∨ n = 40 ∨ n = 41 ∨ n = 42 ∨ n = 43 ∨ n = 44 ∨ n = 45 ∨ n = 46 ∨ n = 47 ∨ n = 48 ∨ n = 49 ∨ n = 50 ∨ n = 51 ∨ n = 52 ∨ n = 53 ∨ n = 54 ∨ n = 55 ∨ n = 56 ∨ n = 57 ∨ n = 58 ∨ n = 59 ∨ n = 60 := by omega
  rcases hn with rfl | rfl | rfl | rfl | rfl | rfl | rfl | rfl | rfl | rfl | rfl | rfl | rfl | rfl | rfl | rfl | rfl | rfl | rfl | rfl | rfl | rfl | rfl | rfl | rfl | rfl | rfl | rfl | rfl | rfl | rfl | rfl | rfl | rfl | rfl | rfl | rfl | rfl | rfl | rfl | rfl | rfl | rfl | rfl | rfl | rfl | rfl | rfl | rfl | rfl | rfl | rfl | rfl | rfl | rfl | rfl | rfl | rfl | rfl | rfl | rfl
  all_goals exact ⟨by kernel_rfl, rfl⟩
set_option maxHeartbeats 2000000 in
theorem mulN (n : Nat) (h : n ≤ 60) (w : World) : Calls Tryz.prog 188 #[.int .u64 1, .int .u64 n] w fun e w' => e = .returned (.tuple #[.int .u64 0, .int .u64 n]) ∧ w' = w := by
  have H := hidD (mul64N n h w)
  have h1 : (n : Int) ≤ 60 := by omega
  have c1 : IntKind.u64.wrap (n : Int) = (n : Int) := by rw [IntKind.wrap_u64]; omega
  go_enter Tryz.func188, Tryz.ntmps188
  go_wp2_with (go_at_call 210; refine H.out.mono ?_; rintro e w' ⟨rfl, hw⟩; rw [hw]; clear hw w')
  go_ret2
  exact ⟨rfl, rfl⟩
end Go.Proofs.YtpjjagalekolaaaGreatDoor

/- So many numbers, none so far: in memory. -/
namespace Go.Proofs.YtpjjagalekolaaaGreatDoor
open Go.RowKit
set_option linter.unusedVariables false
set_option linter.unusedSimpArgs false

/-- A number, or none. -/
def optI : Option Nat → Int
  | none => -1
  | some k => k
def optV (f : Nat → Option Nat) (n : Nat) : List Value := (List.range n).map fun i => .int .i64 (optI (f i))
theorem optV_len (f : Nat → Option Nat) (n : Nat) : (optV f n).length = n := by simp [optV]
theorem optV_get (f : Nat → Option Nat) (n i : Nat) (h : i < n) : (optV f n)[i]? = some (.int .i64 (optI (f i))) := by simp [optV, h]
theorem optV_set (f : Nat → Option Nat) (n i : Nat) (v : Option Nat) : (optV f n).set i (.int .i64 (optI v)) = optV (upN f i v) n := by
  refine List.ext_getElem? (fun j => ?_)
  rw [List.getElem?_set]
  by_cases h : i = j
  · subst h
    rw [if_pos rfl, optV_len]
    by_cases h' : i < n
    · rw [if_pos h', optV_get _ _ _ h', upN_at]
    · rw [if_neg h', List.getElem?_eq_none (by rw [optV_len]; omega)]
  · rw [if_neg h]
    by_cases h' : j < n
    · rw [optV_get _ _ _ h', optV_get _ _ _ h', upN_ne _ _ (fun e => h e.symm)]
    · rw [List.getElem?_eq_none (by rw [optV_len]; omega), List.getElem?_eq_none (by rw [optV_len]; omega)]

def repA (c n : Nat) : Array Value := (List.replicate c (Value.int .i64 (-1)) ++ List.replicate (n - c) (Value.int .i64 0)).toArray
theorem repA_size (c n : Nat) (h : c ≤ n) : (repA c n).size = n := by simp [repA]; omega
theorem repA_grow (c m n : Nat) (h : c + m ≤ n) : ((repA c n).toList.take c ++ List.replicate m (Value.int .i64 (-1)) ++ (repA c n).toList.drop (c + (List.replicate m (Value.int .i64 (-1))).length)).toArray = repA (c + m) n := by
  unfold repA
  congr 1
  rw [List.length_replicate, List.take_left' (by simp), List.drop_append]
  simp [List.replicate_append_replicate]
  omega
theorem repA_copy {w : World} {a c n : Nat} (hg : w.heap[a]? = some (.cells (repA c n) 3 (0, 0))) (h : c ≤ n) (cap cap' : Nat) :
    (Builtin.copy_ #[23, 23] 3 #[.slice (some ⟨a, c, none⟩) (n - c) cap, .slice (some ⟨a, 0, none⟩) c cap']).run Tryz.prog w = .ok (.int .i64 ((Nat.min c (n - c) : Nat) : Int)) (w.setRow a (repA (c + Nat.min c (n - c)) n)) := by
  have hm : Nat.min c (n - c) ≤ n - c := Nat.min_le_right _ _
  have hm2 : Nat.min c (n - c) ≤ c := Nat.min_le_left _ _
  have := run_copy_row (P := Tryz.prog) w 23 23 3 3 a c (n - c) cap ⟨a, 0, none⟩ c cap' (repA c n) 3 (List.replicate (Nat.min c (n - c)) (.int .i64 (-1))) Tryz.underlying23 (by kernel_rfl) hg (by simp) (fun j v hv => by
    rw [List.getElem?_replicate] at hv
    split at hv
    · rename_i hj
      cases hv
      rw [Addr.add_lit, Nat.zero_add]
      have z := Lib.cell_of_heap hg j
      rw [z]
      have : j < c := by omega
      simp [repA, List.getElem?_append, this]
    · cases hv) (by rw [List.length_replicate, repA_size _ _ h]; omega) (by intro v hv; rw [List.eq_of_mem_replicate hv]; rfl)
  rw [repA_grow _ _ _ (by omega), List.length_replicate] at this
  exact this
theorem repA_first {w : World} {a g n : Nat} (hg : w.heap[a]? = some (.cells (repA 0 n) 3 (0, 0))) (hc : w.cell? ⟨g, 0, none⟩ = some (.int .i64 (-1))) :
    (Builtin.copy_ #[23, 23] 3 #[.slice (some ⟨a, 0, none⟩) n n, .slice (some ⟨g, 0, none⟩) 1 1]).run Tryz.prog w = .ok (.int .i64 ((Nat.min 1 n : Nat) : Int)) (w.setRow a (repA (Nat.min 1 n) n)) := by
  have hm : Nat.min 1 n ≤ n := Nat.min_le_right _ _
  have hm2 : Nat.min 1 n ≤ 1 := Nat.min_le_left _ _
  have := run_copy_row (P := Tryz.prog) w 23 23 3 3 a 0 n n ⟨g, 0, none⟩ 1 1 (repA 0 n) 3 (List.replicate (Nat.min 1 n) (.int .i64 (-1))) Tryz.underlying23 (by kernel_rfl) hg (by simp) (fun j v hv => by
    rw [List.getElem?_replicate] at hv
    split at hv
    · rename_i hj
      cases hv
      have : j = 0 := by omega
      subst this
      rw [Addr.add_lit]
      exact hc
    · cases hv) (by rw [List.length_replicate, repA_size _ _ (by omega)]; omega) (by intro v hv; rw [List.eq_of_mem_replicate hv]; rfl)
  rw [repA_grow _ _ _ (by omega), List.length_replicate, Nat.zero_add] at this
  exact this
theorem repA_make (w : World) (n : Nat) (hn : n ≤ 60) : (Instr.makeSlice 23 (.int .i64 (n : Int)) (.int .i64 (n : Int))).run Tryz.prog w = .ok (.slice (some ⟨w.heap.size, 0, none⟩) n n) (w.alloc (.cells (repA 0 n) 3)) := by
  obtain ⟨i0, hi, hz0, hz1, hz2⟩ := info_parts info3
  have h := run_makeSlice (P := Tryz.prog) w 23 3 i0 _ Tryz.underlying23 hi hz0 .i64 .i64 (n : Int) (n : Int) (by omega) (Int.le_refl _) (by rw [hz1]; simp; omega) (by rw [hz2]; simp; omega) (by omega)
  simp only [Int.toNat_natCast] at h
  have hc : (Value.int .i64 0).cells = #[.int .i64 0] := rfl
  rw [hz1, Nat.mul_one, hc] at h
  have e : madeCells #[.int .i64 0] n = repA 0 n := by
    refine Array.ext (by simp [madeCells, repA]) (fun j h1 h2 => ?_)
    simp [madeCells, repA, Nat.mod_one]
  rw [e] at h
  exact h
/-- A row is written anew in a block of one's own. -/
theorem setRow_own {w u : World} {a : Nat} {cur new : Array Value} {T : TypeId} (hg : u.heap[a]? = some (.cells cur T (0, 0))) (hb : Below w.heap.size w u) (ha : w.heap.size ≤ a) : (u.setRow a new).heap[a]? = some (.cells new T (0, 0)) ∧ Below w.heap.size w (u.setRow a new) := by
  refine ⟨setRow_heap u a cur _ T _ hg, ?_⟩
  have hs : (u.setRow a new).heap.size = u.heap.size := by simp [World.setRow]
  refine ⟨hb.os, hb.tape, hb.output, by rw [hs]; exact hb.size, fun b hlt => ?_⟩
  rw [← hb.block b hlt]
  simp only [World.setRow, Array.getElem?_modify]
  rw [if_neg (by omega)]

set_option maxHeartbeats 4000000 in
set_option maxRecDepth 100000 in
theorem repeatN (n : Nat) (hn : n ≤ 60) (w : World) (g : Nat) (hg : w.heap[g]? = some (.cells #[.int .i64 (-1)] 3 (0, 0))) :
    Calls Tryz.prog 149 #[.slice (some ⟨g, 0, none⟩) 1 1, .int .i64 n] w fun e w' => ∃ a, e = .returned (.slice (some ⟨a, 0, none⟩) n n) ∧ w.heap.size ≤ a ∧ w'.heap[a]? = some (.cells (repA n n) 3 (0, 0)) ∧ Below w.heap.size w w' := by
  have hlt : g < w.heap.size := (Array.getElem?_eq_some_iff.1 hg).1
  have hb1 : Below w.heap.size w (w.alloc (.cells (repA 0 n) 3)) := (Below.refl _ _).alloc (Nat.le_refl _) _
  have hcg : w.cell? ⟨g, 0, none⟩ = some (.int .i64 (-1)) := Lib.cell_of_heap hg 0
  have hmk := repA_make w n hn
  have hcp := repA_first (heap_alloc_new w (.cells (repA 0 n) 3)) ((hb1.cell (p := ⟨g, 0, none⟩) hlt).trans hcg)
  obtain ⟨hr1, hb2⟩ := setRow_own (new := repA (Nat.min 1 n) n) (heap_alloc_new w (.cells (repA 0 n) 3)) hb1 (Nat.le_refl _)
  have HM := hidD (mulN n hn)
  generalize hA : w.heap.size = A at *
  generalize hW1 : w.alloc (.cells (repA 0 n) 3) = W1 at *
  generalize hW2 : W1.setRow A (repA (Nat.min 1 n) n) = W2 at *
  clear hW2 hW1 hb1 hcg hlt hg
  obtain ⟨m, hm, hm1, hm2⟩ : ∃ m, Nat.min 1 n = m ∧ m ≤ n ∧ (m = 0 → n = 0) := ⟨_, rfl, Nat.min_le_right _ _, fun h => by have h2 : min 1 n = 0 := h; omega⟩
  rw [hm] at hcp hr1
  clear hm
  have HR := hidD hr1
  have HB := hidD hb2
  have c1 : IntKind.u64.wrap (n : Int) = (n : Int) := by rw [IntKind.wrap_u64]; omega
  have c2 : IntKind.i64.wrap (n : Int) = (n : Int) := by rw [IntKind.wrap_i64]; omega
  have c3 : ¬ (n : Int) > 9223372036854775807 := by omega
  have c4 : ¬ (n : Int) < 0 := by omega
  clear hr1 hb2
  go_enter Tryz.func149, Tryz.ntmps149
  go_wp2_with (go_at_call 188; refine (HM.out _).mono ?_; rintro e w' ⟨rfl, hw⟩; rw [hw]; clear hw w')
  go_loopw [8] (fun v8 wr => ∃ c : Nat, c ≤ n ∧ (c = 0 → n = 0) ∧ v8 = .int .i64 c ∧ Hid (wr.heap[A]? = some (.cells (repA c n) 3 (0, 0))) ∧ Hid (Below A w wr)) (fun v8 _ => n - (intOf v8).toNat)
  case atStart => exact ⟨m, hm1, hm2, rfl, HR, HB⟩
  case round =>
    obtain ⟨c, hc, hc0, rfl, hR, hB⟩ := hrel
    clear HR HB hcp hmk
    by_cases hlt : c < n
    · have hcp := repA_copy (w := wr.drew) (a := A) hR.out hc (n - c) n
      obtain ⟨d, hd, hd1, hd2⟩ : ∃ d, Nat.min c (n - c) = d ∧ c + d ≤ n ∧ 0 < d := ⟨_, rfl, by have : Nat.min c (n - c) = min c (n - c) := rfl; omega, by have : Nat.min c (n - c) = min c (n - c) := rfl; omega⟩
      rw [hd] at hcp
      obtain ⟨hr3, hb3⟩ := setRow_own (w := w) (u := wr.drew) (new := repA (c + d) n) hR.out (by rw [hA]; exact hB.out.drew) (Nat.le_of_eq hA)
      generalize hW3 : wr.drew.setRow A (repA (c + d) n) = W3 at *
      clear hW3
      have R3 := hidD hr3
      have B3 : Hid (Below A w W3) := by rw [← hA]; exact hb3
      clear hr3 hb3 hR hB
      have hlt' : (c : Int) < (n : Int) := by omega
      have k1 : (c : Int) ≤ (n : Int) := by omega
      have k2 : ((n : Int) - (c : Int)).toNat = n - c := by omega
      have k3 : ¬ (n = c) := by omega
      have w9 : IntKind.i64.wrap ((c : Int) + (d : Int)) = (c : Int) + (d : Int) := by rw [IntKind.wrap_i64]; omega
      go_wp2
      go_region
      all_goals
        go_wp2
        exact ⟨⟨c + d, by omega, by omega, by simp, R3, B3⟩, by simp [intOf]; omega⟩
    · have hce : c = n := by omega
      subst hce
      go_wp2
      go_ret
      exact ⟨A, rfl, Nat.le_refl _, hR.out, hB.out⟩
theorem repA_full (n : Nat) (i : Nat) (h : i < n) : (repA n n)[i]? = some (.int .i64 (-1)) := by simp [repA, h]
/-- So many numbers, none so far. -/
theorem numbersN (n : Nat) (hn : n ≤ 60) (w : World) :
    Calls Tryz.prog 98 #[.int .i64 n] w fun e w' => ∃ a, e = .returned (.slice (some ⟨a, 0, none⟩) n n) ∧ w.heap.size ≤ a ∧ Blk w' a 3 (optV (fun _ => none) n) ∧ Below w.heap.size w w' := by
  have H := hidD (repeatN n hn (w.alloc (.cells #[.int .i64 (-1)] 3)) w.heap.size (heap_alloc_new w _))
  go_enter Tryz.func98, Tryz.ntmps98
  go_wp2_with (go_at_call 149; refine H.out.mono ?_; rintro e w1 ⟨a, rfl, ha, hr, hb⟩)
  go_ret
  simp only [World.size_alloc] at ha
  refine ⟨a, rfl, by omega, ⟨_, hr, fun j v hv => ?_⟩, ((Below.refl _ _).alloc (Nat.le_refl _) _).trans (hb.mono (by simp))⟩
  have hj : j < n := by
    have := (List.getElem?_eq_some_iff.1 hv).1
    rwa [optV_len] at this
  rw [optV_get _ _ _ hj] at hv
  cases hv
  exact repA_full n j hj
end Go.Proofs.YtpjjagalekolaaaGreatDoor

/- The match in memory: what is in its place. -/
namespace Go.Proofs.YtpjjagalekolaaaGreatDoor
open Go.RowKit
set_option linter.unusedVariables false
set_option linter.unusedSimpArgs false

/-- Two trees, where they lie. -/
structure Two (w0 : World) (sv tv : Value) (s t : List EntD) : Prop where
  rs : RowAt w0 sv s
  rt : RowAt w0 tv t
  ss : SmallL s
  st : SmallL t
  ls : s.length ≤ 60
  lt : t.length ≤ 60
theorem RowAt.ent {w0 : World} {v : Value} {l : List EntD} (h : RowAt w0 v l) {j : Nat} (hj : j < l.length) : ∃ b off cap o, v = .slice (some ⟨b, off, none⟩) l.length cap ∧ l[j]? = some o ∧ ∀ u : World, Below w0.heap.size w0 u → u.cell? ⟨b, off + j * 5, none⟩ = some (.string o.path) ∧ u.cell? ⟨b, off + j * 5 + 1, none⟩ = some (.bool o.dir) ∧ u.cell? ⟨b, off + j * 5 + 2, none⟩ = some (.int .i64 o.id) ∧ u.cell? ⟨b, off + j * 5 + 3, none⟩ = some (.int .i64 o.size) ∧ u.cell? ⟨b, off + j * 5 + 4, none⟩ = some (.int .i64 o.mode) := by
  cases h with
  | nil => simp at hj
  | row b off cap l hb hc hm h =>
    refine ⟨b, off, cap, l[j], rfl, List.getElem?_eq_getElem hj, fun u hu => ?_⟩
    have h' := (h.below hu hb) j hj
    exact ⟨h' 0 _ rfl, h' 1 _ rfl, h' 2 _ rfl, h' 3 _ rfl, h' 4 _ rfl⟩
/-- Which is found. -/
theorem fst_opt (fold : Bool) (L : List EntD) (p : BL) : ∃ r : Option Nat, fstI (isAt fold p) L = optI r ∧ ((r = none ∧ ∀ (i : Nat) (a : EntD), L[i]? = some a → sameB fold a.pl p = false) ∨ ∃ (i : Nat) (a : EntD), r = some i ∧ L[i]? = some a ∧ sameB fold a.pl p = true) := by
  rcases fstI_find (isAt fold p) L with ⟨h1, h2⟩ | ⟨i, hi, h1, h2⟩
  · refine ⟨none, h1, .inl ⟨rfl, fun i a ha => ?_⟩⟩
    have := List.find?_eq_none.1 h2 a (getE ha)
    cases h : sameB fold a.pl p with
    | false => rfl
    | true => exact absurd h this
  · exact ⟨some i, h1, .inr ⟨i, L[i], rfl, List.getElem?_eq_getElem hi, List.find?_some (p := isAt fold p) h2⟩⟩

/-- A match in memory. -/
structure MsN (w0 u : World) (P A B : Nat) (T : TypeId) (sv tv : Value) (fold : Bool) (n m : Nat) (to fr : Nat → Option Nat) : Prop where
  w : Below w0.heap.size w0 u
  p : Blk u P T [sv, tv, .bool fold, .slice (some ⟨A, 0, none⟩) n n, .slice (some ⟨B, 0, none⟩) m m]
  a : Blk u A 3 (optV to n)
  b : Blk u B 3 (optV fr m)
  ga : w0.heap.size ≤ A
  gb : w0.heap.size ≤ B
  gp : w0.heap.size ≤ P
  ne : A ≠ B
section
variable {w0 u u' : World} {P A B n m : Nat} {T : TypeId} {sv tv : Value} {fold : Bool} {to fr : Nat → Option Nat}
theorem MsN.below (h : MsN w0 u P A B T sv tv fold n m to fr) (hb : Below u.heap.size u u') : MsN w0 u' P A B T sv tv fold n m to fr := ⟨h.w.trans (hb.mono h.w.size), h.p.below hb, h.a.below hb, h.b.below hb, h.ga, h.gb, h.gp, h.ne⟩
set_option maxHeartbeats 2000000 in
/-- Number i becomes number j. -/
theorem MsN.join (h : MsN w0 u P A B T sv tv fold n m to fr) (hT : T ≠ 3) (i j : Nat) (hi : i < n) (hj : j < m) :
    Calls Tryz.prog 187 #[.pointer (some ⟨P, 0, none⟩), .int .i64 i, .int .i64 j] u fun e w' => e = .returned (.tuple #[]) ∧ MsN w0 w' P A B T sv tv fold n m (upN to i (some j)) (upN fr j (some i)) := by
  have H := hidD h
  have hne := h.ne
  have c0 := h.p.cell 0 rfl
  have c3 := h.p.cell 3 rfl
  have c4 := h.p.cell 4 rfl
  have x1 := h.a.cell i (optV_get to n i hi)
  have x2 := h.b.cell j (optV_get fr m j hj)
  have y2 := (h.b.other (b' := A) i (.int .i64 j) (fun e => hne e.symm)).cell j (optV_get fr m j hj)
  have f1 := h.a.frozen i
  have f2 := (h.b.other (b' := A) i (.int .i64 j) (fun e => hne e.symm)).frozen j
  have n1 := h.p.ne h.a hT
  have n2 := h.p.ne h.b hT
  have n3 : ¬ A = P := fun e => n1 e.symm
  have n4 : ¬ B = P := fun e => n2 e.symm
  have hi0 : (0 : Int) ≤ (i : Int) := by omega
  have hi1 : (i : Int) < (n : Int) := by omega
  have hj0 : (0 : Int) ≤ (j : Int) := by omega
  have hj1 : (j : Int) < (m : Int) := by omega
  clear h
  go_enter Tryz.func187, Tryz.ntmps187
  go_wp2
  go_region_held3 (fun u => u.cell? ⟨P, 3, none⟩ = some (.slice (some ⟨A, 0, none⟩) n n) ∧ u.cell? ⟨P, 4, none⟩ = some (.slice (some ⟨B, 0, none⟩) m m)) (go_keep) (first | fail)
  refine bodyPost_end (results_none rfl _ _ _) rfl ?_
  have h := H.out
  have e1 := h.a.set i (.int .i64 j) (by rw [optV_len]; exact hi)
  have e2 := h.b.other (b' := A) i (.int .i64 j) (fun e => hne e.symm)
  have e3 := e1.other (b' := B) j (.int .i64 i) hne
  have e4 := e2.set j (.int .i64 i) (by rw [optV_len]; exact hj)
  have e5 := optV_set to n i (some j)
  have e6 := optV_set fr m j (some i)
  simp only [optI] at e5 e6
  rw [e5] at e3
  rw [e6] at e4
  exact ⟨rfl, grown2_below (u1 := u.setCell ⟨A, i, none⟩ (.int .i64 j)) h.w (gb_set _ _ _ _) ((gb_set _ B j (.int .i64 i)).trans ⟨rfl, rfl, rfl, Nat.le_refl _, fun _ _ _ => rfl⟩) h.ga h.gb, (h.p.other i (.int .i64 j) n1).other j (.int .i64 i) n2, e3, e4, h.ga, h.gb, h.gp, hne⟩
end

set_option maxHeartbeats 8000000 in
set_option maxRecDepth 100000 in
theorem joinInPlaceN {w0 u : World} {P A B : Nat} {sv tv : Value} {fold : Bool} {s t : List EntD} (X : Two w0 sv tv s t) (PP : Pair fold s t) (M : MsN w0 u P A B 160 sv tv fold s.length t.length (fun _ => none) (fun _ => none)) :
    Calls Tryz.prog 147 #[.pointer (some ⟨P, 0, none⟩)] u fun e w' => e = .returned (.tuple #[]) ∧ ∃ to fr, MsN w0 w' P A B 160 sv tv fold s.length t.length to fr ∧ MI fold s t to fr t.length := by
  have XX := hidD X
  have XP := hidD PP
  have M0 := hidD M
  have c1 := M.p.cell 1 rfl
  obtain ⟨sa, sc, hsv⟩ := X.rs.val
  obtain ⟨ta, tc, htv⟩ := X.rt.val
  subst hsv htv
  have hlt := X.lt
  have hls := X.ls
  clear M X PP
  go_enter Tryz.func147, Tryz.ntmps147
  go_wp2_with fail
  go_loopw [10] (fun iv wr => ∃ (j : Nat) (to fr : Nat → Option Nat), j ≤ t.length ∧ iv = .int .i64 j ∧ Hid (MsN w0 wr P A B 160 (.slice sa s.length sc) (.slice ta t.length tc) fold s.length t.length to fr) ∧ Hid (MI fold s t to fr j)) (fun iv _ => t.length - (intOf iv).toNat)
  case atStart => exact ⟨0, _, _, Nat.zero_le _, rfl, M0, MI.start⟩
  case round =>
    clear M0 c1
    obtain ⟨j, to, fr, hj, rfl, M, K⟩ := hrel
    by_cases hlt : j < t.length
    · obtain ⟨bt, ot, ct, o, hv, ho, hcells⟩ := XX.out.rt.ent hlt
      cases hv
      obtain ⟨t0, t1, t2, t3, t4⟩ := hcells wr M.out.w
      have hsm := XX.out.st.2 o (getE ho)
      obtain ⟨r, hr, hR⟩ := fst_opt fold s o.pl
      have HR := hidD hR
      have HO := hidD ho
      have BB := hidD (box_below wr #[.string o.path, .bool o.dir, .int .i64 o.id, .int .i64 o.size, .int .i64 o.mode] 56)
      have XB := hidD (Blk.new wr 56 [.string o.path, .bool o.dir, .int .i64 o.id, .int .i64 o.size, .int .i64 o.mode])
      have M1 := hidD (M.out.below BB.out)
      have HF : Hid (∀ u : World, Below w0.heap.size w0 u → Calls Tryz.prog 155 #[.slice sa s.length sc, .string o.path, .bool fold] u fun e u' => e = .returned (.int .i64 (optI r)) ∧ Below u.heap.size u u') := by
        rw [← hr]
        exact tfind XX.out.rs XX.out.ss o.path hsm fold
      have q0 := M1.out.p.cell 0 rfl
      have q2 := M1.out.p.cell 2 rfl
      have y0 := XB.out.cell 0 rfl
      have hlt' : (j : Int) < (t.length : Int) := by omega
      clear hcells hsm hR ho hr M
      go_wp2_with fail
      generalize wr.alloc (.cells #[.string o.path, .bool o.dir, .int .i64 o.id, .int .i64 o.size, .int .i64 o.mode] 56) = u1 at *
      go_region_held3 (fun v => v.cell? ⟨P, 0, none⟩ = some (.slice sa s.length sc) ∧ v.cell? ⟨P, 2, none⟩ = some (.bool fold) ∧ v.cell? ⟨wr.heap.size, 0, none⟩ = some (.string o.path)) (go_keep) (first | (go_at_call 155; refine (HF.out _ (M1.out.below (below_drewB _)).w).mono ?_; rintro e w1 ⟨rfl, hb⟩; have HB2 : Hid (Below u1.heap.size u1 w1) := (below_drewB u1).trans hb; have X2 := hidD (XB.out.below HB2.out); have M2 := hidD (M1.out.below HB2.out); have r0 := M2.out.p.cell 0 rfl; have r2 := M2.out.p.cell 2 rfl; have z0 := X2.out.cell 0 rfl; have z1 := X2.out.cell 1 rfl; have z2 := X2.out.cell 2 rfl; clear hb))
      rcases HR.out with ⟨hr, hno⟩ | ⟨i, a, hr, ha, hsame⟩
      · subst hr
        have K2 := hidD (K.out.skip HO.out (fun i a ha h => by rw [hno i a ha] at h; cases h))
        have o1 : optI none = -1 := rfl
        rw [o1]
        clear K hno HR
        go_wp2_with fail
        go_quiet (fail)
        have M3 := hidD (M2.out.below (below_drewNB w1 nq))
        go_wp2_with fail
        exact ⟨⟨j + 1, to, fr, by omega, by go_num, M3, K2⟩, by simp [intOf]; omega⟩
      · subst hr
        have o1 : optI (some i) = (i : Int) := rfl
        rw [o1]
        have hi : i < s.length := (List.getElem?_eq_some_iff.1 ha).1
        have hi' : (i : Int) < (s.length : Int) := by omega
        have hi0 : ((i : Int) != -1) = true := by simp
        obtain ⟨bs, os, cs, a', hv, ha', hcells⟩ := XX.out.rs.ent hi
        cases hv
        rw [ha] at ha'
        cases ha'
        obtain ⟨s0, s1, s2, s3, s4⟩ := hcells w1 M2.out.w
        have HA := hidD ha
        have HS := hidD hsame
        clear hcells ha HR s0 s3 s4 t0 t1 t2 t3 t4 q0 q2 y0 hsame
        by_cases hd : a.dir = o.dir
        · have hd1 : (a.dir == o.dir) = true := by simp [hd]
          rw [hd] at s1
          by_cases hid : a.id = o.id
          · have K2 := hidD (K.out.join XP.out HO.out HA.out HS.out hd hid)
            rw [hid] at s2
            clear K
            go_wp2_with fail
            go_quiet (fail)
            have M3 := hidD (M2.out.below (below_drewNB w1 nq))
            go_wp2_with fail
            refine (M3.out.join (by decide) i j hi hlt).mono ?_
            rintro e w3 ⟨rfl, hM4⟩
            have M4 := hidD hM4
            clear hM4
            go_wp2_with fail
            exact ⟨⟨j + 1, _, _, by omega, by go_num, M4, K2⟩, by simp [intOf]; omega⟩
          · have K2 := hidD (K.out.skip HO.out (fun i' a' ha' h1 h2 h3 => by
              have e := idx_one XP.out.vs ha' HA.out (sameB_trans h1 (sameB_symm HS.out))
              subst e
              rw [HA.out] at ha'
              cases ha'
              exact hid h3))
            have hid1 : (a.id == o.id) = false := by simp [hid]
            clear K
            go_wp2_with fail
            go_quiet (fail)
            have M3 := hidD (M2.out.below (below_drewNB w1 nq))
            go_wp2_with fail
            exact ⟨⟨j + 1, to, fr, by omega, by go_num, M3, K2⟩, by simp [intOf]; omega⟩
        · have K2 := hidD (K.out.skip HO.out (fun i' a' ha' h1 h2 h3 => by
            have e := idx_one XP.out.vs ha' HA.out (sameB_trans h1 (sameB_symm HS.out))
            subst e
            rw [HA.out] at ha'
            cases ha'
            exact hd h2))
          have hd1 : (a.dir == o.dir) = false := by simp [hd]
          clear K
          go_wp2_with fail
          go_quiet (fail)
          have M3 := hidD (M2.out.below (below_drewNB w1 nq))
          go_wp2_with fail
          exact ⟨⟨j + 1, to, fr, by omega, by go_num, M3, K2⟩, by simp [intOf]; omega⟩
    · have hje : j = t.length := by omega
      subst hje
      go_wp2_with fail
      refine bodyPost_end (results_none rfl _ _ _) rfl ?_
      exact ⟨rfl, to, fr, M.out, K.out⟩
end Go.Proofs.YtpjjagalekolaaaGreatDoor

