/- The document's volume: an operation done; the way a renaming goes is handed in. -/
import Derived.Test.YtpjjagalekolaaaGreatDoorP23
namespace Go.Proofs.YtpjjagalekolaaaGreatDoor
open Go.RowKit
set_option linter.unusedVariables false
set_option linter.unusedSimpArgs false

theorem DoA.of_below {T : TypeId} {w u : World} {vb : Nat} {fold : Bool} {space : Int} {rest : List Value} {x : Except Int (List EntD)} {r : Ending} {w' : World} (hb : Below w.heap.size w u) (h : DoA T u vb fold space rest x r w') : DoA T w vb fold space rest x r w' := by
  cases x with
  | error n => exact ⟨h.1, hb.trans (h.2.mono hb.size)⟩
  | ok M =>
    obtain ⟨h1, v', h2, h3, h4⟩ := h
    exact ⟨h1, v', h2, own_mono h3 hb.size, grown_of hb h4⟩
/-- What a callee answers that does it all, handed on. -/
def retOf (x : Except Int (List EntD)) : Int := match x with | .error n => n | .ok _ => 0
theorem DoA.ret {T : TypeId} {w : World} {vb : Nat} {fold : Bool} {space : Int} {rest : List Value} {x : Except Int (List EntD)} {r : Ending} {w' : World} (h : DoA T w vb fold space rest x r w') : r = .returned (.int .i64 (retOf x)) := by
  cases x with
  | error n => exact h.1
  | ok M => exact h.1
theorem eb_mode {w u : World} {e : EntD} (h : Eb w e u) (m : Int) : Eb w { e with mode := m } (u.setCell ⟨w.heap.size, 4, none⟩ (.int .i64 m)) := by
  have hx : (u.setCell ⟨w.heap.size, 4, none⟩ (.int .i64 m)).heap[w.heap.size]? = _ := heap_setCell_same u w.heap.size 4 _ 56 (.int .i64 m) h.box
  refine ⟨⟨h.bel.os, h.bel.tape, h.bel.output, by simp; exact h.bel.size, fun k hk => ?_⟩, ?_⟩
  · rw [heap_setCell_other u ⟨w.heap.size, 4, none⟩ k _ (fun e => by simp at e; omega)]
    exact h.bel.block k hk
  · rw [hx]; simp [EntD.cells]

section
variable {w : World} {vb : Nat} {v : Value} {L : List EntD} {fold : Bool} {space : Int}

set_option maxHeartbeats 4000000 in
set_option maxRecDepth 100000 in
/-- mkdir and write. -/
theorem refDo_make (V : Vm w vb v L fold space) (hk : Vk 74 w vb v fold space []) (o : OpD) (hg : OpGood o) (hs : o.path.size ≤ 1000) (hpl : ∀ t, placeL fold L o.path.data.toList = some t → t.length ≤ 1500000) (h14 : o.kind = 1 ∨ o.kind = 4) :
    Calls Tryz.prog 40 #[.pointer (some ⟨vb, 0, none⟩), .agg #[.int .i64 o.kind, .string o.path, .string o.dest, .int .i64 o.id, .int .i64 o.size, .int .i64 o.mode]] w fun r w' => DoA 74 w vb fold space [] (doL fold space L o) r w' := by
  have hf := hg.file
  have ST := hidD (Ob.start w o)
  rcases h14 with h1 | h1
  · have HM := hidD (fun (u : World) (hu : Below w.heap.size w u) => refMake_d (V.below hu) (hk.below hu hk.lt) o.path o.mode (by omega) hpl)
    rw [doL_mkdir h1]
    obtain ⟨kind, path, dest, id, size, mode⟩ := o
    dsimp only at *
    subst h1
    clear V hk hg hf
    generalize mkL fold space L ⟨path, true, 0, 0, mode⟩ = X at *
    go_enter Tryz.func40, Tryz.ntmps40
    go_wp2_with (go_at_call 62; refine (HM.out _ ST.out.bel).mono ?_; intro r w1 hd; obtain rfl := hd.ret)
    go_ret
    exact DoA.of_below ST.out.bel hd
  · obtain ⟨_, _, hz0, hz1⟩ := hf h1
    have HM := hidD (fun (u : World) (hu : Below w.heap.size w u) => refMake_f (V.below hu) (hk.below hu hk.lt) o.path o.id o.size o.mode (by omega) hpl hz0 hz1)
    rw [doL_write h1]
    obtain ⟨kind, path, dest, id, size, mode⟩ := o
    dsimp only at *
    subst h1
    clear V hk hg hf hz0 hz1
    generalize mkL fold space L ⟨path, false, id, size, mode⟩ = X at *
    go_enter Tryz.func40, Tryz.ntmps40
    go_wp2_with (go_at_call 62; refine (HM.out _ ST.out.bel).mono ?_; intro r w1 hd; obtain rfl := hd.ret)
    go_ret
    exact DoA.of_below ST.out.bel hd

set_option maxHeartbeats 4000000 in
set_option maxRecDepth 100000 in
theorem refDo_none (V : Vm w vb v L fold space) (kind : Int) (path dest : ByteArray) (id size mode : Int) (hs : path.size ≤ 1000) (hk : kind = 2 ∨ kind = 3 ∨ kind = 5 ∨ kind = 6 ∨ kind = 7) (hi : fstI (isAt fold path.data.toList) L = -1) :
    Calls Tryz.prog 40 #[.pointer (some ⟨vb, 0, none⟩), .agg #[.int .i64 kind, .string path, .string dest, .int .i64 id, .int .i64 size, .int .i64 mode]] w fun r w' => DoA 74 w vb fold space [] (.error 9) r w' := by
  have ST := hidD (Ob.start w ⟨kind, path, dest, id, size, mode⟩)
  have HF := hidD (fun (u : World) (hu : Below w.heap.size w u) => refAt (V.below hu).vol (V.below hu).row V.smallL path (by omega))
  rw [hi] at HF
  clear V
  unfold DoA
  rcases hk with rfl | rfl | rfl | rfl | rfl
  all_goals go_enter Tryz.func40, Tryz.ntmps40
  all_goals go_wp2_with (go_at_call 63; refine (HF.out _ ST.out.bel).mono ?_; rintro r w1 ⟨rfl, hb1⟩)
  all_goals go_ret
  all_goals exact ⟨rfl, (ST.out.below hb1).bel⟩

set_option maxHeartbeats 4000000 in
set_option maxRecDepth 100000 in
theorem refDo_chmod {b off cap : Nat} (V : Vm w vb (.slice (some ⟨b, off, none⟩) L.length cap) L fold space) (hk : Vk 74 w vb (.slice (some ⟨b, off, none⟩) L.length cap) fold space []) (hlb : b < w.heap.size) (hc : EntsAt w b off L) (path dest : ByteArray) (id size mode : Int) (hs : path.size ≤ 1000) (i : Nat) (hlt : i < L.length) (hi : fstI (isAt fold path.data.toList) L = i) (kind : Int) (h7 : kind = 7) :
    Calls Tryz.prog 40 #[.pointer (some ⟨vb, 0, none⟩), .agg #[.int .i64 kind, .string path, .string dest, .int .i64 id, .int .i64 size, .int .i64 mode]] w fun r w' => DoA 74 w vb fold space [] (.ok (L.set i { L[i] with mode := mode })) r w' := by
  subst h7
  have ST := hidD (Ob.start w ⟨7, path, dest, id, size, mode⟩)
  have HF := hidD (fun (u : World) (hu : Below w.heap.size w u) => refAt (V.below hu).vol (V.below hu).row V.smallL path (by omega))
  rw [hi] at HF
  have HV := hidD V.vol
  have HK := hidD hk
  have hvlt := V.vol.lt
  have hll := V.len
  have HW := hidD (fun (u : World) (hu : Below w.heap.size w u) => refWithout_row b off cap L i u (by omega) (by have := hu.size; omega) (hc.below hu hlb))
  have HI := hidD (fun (e : EntD) (he : e.small) (u : World) (v5 : Value) (h : RowAt u v5 (L.eraseIdx i)) => refInsert e h (by have := List.length_eraseIdx_le L i; omega) (fun o ho => V.small o (List.mem_of_mem_eraseIdx ho)) he)
  have hes : L[i].small := V.small _ (List.getElem_mem hlt)
  have hset : insL { L[i] with mode := mode } (L.eraseIdx i) = L.set i { L[i] with mode := mode } := insL_set V.srt i hlt _ rfl
  rw [← hset]
  have HC := hidD (fun (u : World) (hu : Below w.heap.size w u) => (hc.below hu hlb) i hlt)
  generalize L[i] = e at *
  have HI2 := hidD (HI.out { e with mode := mode } hes)
  dsimp only at HI2
  clear V hk hset hc hi HI
  unfold DoA
  go_enter Tryz.func40, Tryz.ntmps40
  go_wp2_with (first | (go_at_call 63; refine (HF.out _ ST.out.bel).mono ?_; rintro r w1 ⟨rfl, hb1⟩; have s1 := ST.out.below hb1; have d0 := s1.cell 0; have d5 := s1.cell 5; simp [OpD.cells] at d0 d5; have c0 := (HV.out.below s1.bel hvlt).c0; have hcw := HC.out _ s1.bel; have y0 : w1.cell? ⟨b, off + i * 5, none⟩ = some (.string e.path) := hcw 0 _ rfl; have y1 := hcw 1 _ rfl; have y2 := hcw 2 _ rfl; have y3 := hcw 3 _ rfl; have y4 := hcw 4 _ rfl; clear hcw; have EB := hidD (eb_mode (Eb.start w1 e) mode); have EB2 := hidD (Eb.start w1 { e with mode := mode }); have hw1 := s1.bel.size; have hol := s1.lt; have hvb1 : vb < w1.heap.size := Nat.lt_of_lt_of_le hvlt hw1; have hbb1 : b < w1.heap.size := Nat.lt_of_lt_of_le hlb hw1) | (go_at_call 64; refine (HW.out _ (by first | exact s1.bel.trans (EB.out.bel.mono hw1) | exact s1.bel.trans (EB2.out.bel.mono hw1))).mono ?_; rintro r w5 ⟨v5, rfl, hown5, hb5⟩; have s5 : Eb w1 { e with mode := mode } w5 := (by first | exact EB.out.below hb5 | exact EB2.out.below hb5); have u5 := s1.bel.trans (s5.bel.mono hw1); have r5 := RowAt.ofOwn hown5; have m0 := s5.cell 0; have m1 := s5.cell 1; have m2 := s5.cell 2; have m3 := s5.cell 3; have m4 := s5.cell 4; simp [EntD.cells] at m0 m1 m2 m3 m4; have hval5 := r5.val; obtain ⟨a5, q5, hv5⟩ := hval5; subst hv5) | (go_at_call 65; refine (HI2.out _ _ r5).mono ?_; rintro r w6 ⟨v6, rfl, hown6, hb6⟩; obtain ⟨a6, n6, q6, hv6⟩ := own_shape hown6; subst hv6; have u6 := u5.trans (hb6.mono u5.size); have k6 := HK.out.below u6 hvlt; have f6 := k6.frozen 0; have g6 := k6.vol.c0))
  go_ret
  obtain ⟨q1, q2⟩ := k6.set (.slice a6 n6 q6)
  exact ⟨rfl, _, q1, own_set hvlt (own_mono hown6 u5.size) q2, grown_of u6 q2⟩

set_option maxHeartbeats 8000000 in
set_option maxRecDepth 100000 in
theorem refDo_rm {b off cap : Nat} (V : Vm w vb (.slice (some ⟨b, off, none⟩) L.length cap) L fold space) (hk : Vk 74 w vb (.slice (some ⟨b, off, none⟩) L.length cap) fold space []) (hlb : b < w.heap.size) (hc : EntsAt w b off L) (path dest : ByteArray) (id size mode : Int) (hs : path.size ≤ 1000) (i : Nat) (hlt : i < L.length) (hi : fstI (isAt fold path.data.toList) L = i) (ep : ByteArray) (ed : Bool) (ei ez em : Int) (he : L[i] = ⟨ep, ed, ei, ez, em⟩) (kind : Int) (h23 : kind = 2 ∨ kind = 3) :
    Calls Tryz.prog 40 #[.pointer (some ⟨vb, 0, none⟩), .agg #[.int .i64 kind, .string path, .string dest, .int .i64 id, .int .i64 size, .int .i64 mode]] w fun r w' => DoA 74 w vb fold space [] (if ed ≠ decide (kind = 2) then .error 10 else if (L.any fun x => belowL false x.pl ep.data.toList) = true then .error 13 else .ok (L.eraseIdx i)) r w' := by
  have ST := hidD (Ob.start w ⟨kind, path, dest, id, size, mode⟩)
  have HF := hidD (fun (u : World) (hu : Below w.heap.size w u) => refAt (V.below hu).vol (V.below hu).row V.smallL path (by omega))
  rw [hi] at HF
  have HV := hidD V.vol
  have HK := hidD hk
  have hvlt := V.vol.lt
  have hll := V.len
  have HW := hidD (fun (u : World) (hu : Below w.heap.size w u) => refWithout_row b off cap L i u (by omega) (by have := hu.size; omega) (hc.below hu hlb))
  have hes : ep.size ≤ 1500000 := by have := V.small _ (List.getElem_mem hlt); rw [he] at this; exact this
  have HB := hidD (fun (u : World) (hu : Below w.heap.size w u) => refAnyBelow_row (V.below hu).vol (by have := hu.size; omega) (hc.below hu hlb) V.smallL ep hes)
  have HC : Hid (∀ (u : World), Below w.heap.size w u → ∀ (j : Nat) (v : Value), (EntD.mk ep ed ei ez em).cells[j]? = some v → u.cell? ⟨b, off + i * 5 + j, none⟩ = some v) := fun u hu => by have := (hc.below hu hlb) i hlt; rw [he] at this; exact this
  clear V hk hc hi he
  rcases h23 with rfl | rfl
  · cases ed
    · simp only [decide_true, ne_eq, Bool.false_eq_true, not_false_eq_true, if_true]
      unfold DoA
      go_enter Tryz.func40, Tryz.ntmps40
      go_wp2_with (go_at_call 63; refine (HF.out _ ST.out.bel).mono ?_; rintro r w1 ⟨rfl, hb1⟩; have s1 := ST.out.below hb1; have d0 := s1.cell 0; have d2 := s1.cell 2; have d5 := s1.cell 5; simp [OpD.cells] at d0 d2 d5; have c0 := (HV.out.below s1.bel hvlt).c0; have hcw := HC.out _ s1.bel; have y0 : w1.cell? ⟨b, off + i * 5, none⟩ = some (.string ep) := hcw 0 _ rfl; have y1 := hcw 1 _ rfl; have y2 := hcw 2 _ rfl; have y3 := hcw 3 _ rfl; have y4 := hcw 4 _ rfl; clear hcw; have EB := hidD (Eb.start w1 ⟨ep, false, ei, ez, em⟩); have hw1 := s1.bel.size; have hol := s1.lt; have hvb1 : vb < w1.heap.size := Nat.lt_of_lt_of_le hvlt hw1; have hbb1 : b < w1.heap.size := Nat.lt_of_lt_of_le hlb hw1; have u1 := s1.bel.trans (EB.out.bel.mono hw1))
      go_ret
      exact ⟨rfl, u1⟩
    · simp only [decide_true, ne_eq, not_true_eq_false, if_false]
      cases hbl : L.any fun x => belowL false x.pl ep.data.toList
      · simp only [Bool.false_eq_true, if_false]
        unfold DoA
        go_enter Tryz.func40, Tryz.ntmps40
        go_wp2_with (first | (go_at_call 63; refine (HF.out _ ST.out.bel).mono ?_; rintro r w1 ⟨rfl, hb1⟩; have s1 := ST.out.below hb1; have d0 := s1.cell 0; have d2 := s1.cell 2; have d5 := s1.cell 5; simp [OpD.cells] at d0 d2 d5; have c0 := (HV.out.below s1.bel hvlt).c0; have hcw := HC.out _ s1.bel; have y0 : w1.cell? ⟨b, off + i * 5, none⟩ = some (.string ep) := hcw 0 _ rfl; have y1 := hcw 1 _ rfl; have y2 := hcw 2 _ rfl; have y3 := hcw 3 _ rfl; have y4 := hcw 4 _ rfl; clear hcw; have EB := hidD (Eb.start w1 ⟨ep, true, ei, ez, em⟩); have hw1 := s1.bel.size; have hol := s1.lt; have hvb1 : vb < w1.heap.size := Nat.lt_of_lt_of_le hvlt hw1; have hbb1 : b < w1.heap.size := Nat.lt_of_lt_of_le hlb hw1; have u1 := s1.bel.trans (EB.out.bel.mono hw1)) | (go_at_call 67; refine (HB.out _ u1).mono ?_; rintro r w3 ⟨rfl, hb3⟩; rw [hbl]; have s3 := EB.out.below hb3; have u3 := s1.bel.trans (s3.bel.mono hw1); have e3 := (HV.out.below u3 hvlt).c0) | (go_at_call 64; refine (HW.out _ u3).mono ?_; rintro r w5 ⟨v5, rfl, hown5, hb5⟩; obtain ⟨a5, n5, q5, hv5⟩ := own_shape hown5; subst hv5; have u5 := u3.trans (hb5.mono u3.size); have k5 := HK.out.below u5 hvlt; have f5 := k5.frozen 0; have g5 := k5.vol.c0))
        go_ret
        obtain ⟨q1, q2⟩ := k5.set (.slice a5 n5 q5)
        exact ⟨rfl, _, q1, own_set hvlt (own_mono hown5 u3.size) q2, grown_of u5 q2⟩
      · simp only [if_true]
        unfold DoA
        go_enter Tryz.func40, Tryz.ntmps40
        go_wp2_with (first | (go_at_call 63; refine (HF.out _ ST.out.bel).mono ?_; rintro r w1 ⟨rfl, hb1⟩; have s1 := ST.out.below hb1; have d0 := s1.cell 0; have d2 := s1.cell 2; have d5 := s1.cell 5; simp [OpD.cells] at d0 d2 d5; have c0 := (HV.out.below s1.bel hvlt).c0; have hcw := HC.out _ s1.bel; have y0 : w1.cell? ⟨b, off + i * 5, none⟩ = some (.string ep) := hcw 0 _ rfl; have y1 := hcw 1 _ rfl; have y2 := hcw 2 _ rfl; have y3 := hcw 3 _ rfl; have y4 := hcw 4 _ rfl; clear hcw; have EB := hidD (Eb.start w1 ⟨ep, true, ei, ez, em⟩); have hw1 := s1.bel.size; have hol := s1.lt; have hvb1 : vb < w1.heap.size := Nat.lt_of_lt_of_le hvlt hw1; have hbb1 : b < w1.heap.size := Nat.lt_of_lt_of_le hlb hw1; have u1 := s1.bel.trans (EB.out.bel.mono hw1)) | (go_at_call 67; refine (HB.out _ u1).mono ?_; rintro r w3 ⟨rfl, hb3⟩; rw [hbl]; have s3 := EB.out.below hb3; have u3 := s1.bel.trans (s3.bel.mono hw1); have e3 := (HV.out.below u3 hvlt).c0))
        go_ret
        exact ⟨rfl, u3⟩
  · have h32 : decide ((3 : Int) = 2) = false := by decide
    rw [h32]
    cases ed
    · simp only [ne_eq, not_true_eq_false, if_false]
      cases hbl : L.any fun x => belowL false x.pl ep.data.toList
      · simp only [Bool.false_eq_true, if_false]
        unfold DoA
        go_enter Tryz.func40, Tryz.ntmps40
        go_wp2_with (first | (go_at_call 63; refine (HF.out _ ST.out.bel).mono ?_; rintro r w1 ⟨rfl, hb1⟩; have s1 := ST.out.below hb1; have d0 := s1.cell 0; have d2 := s1.cell 2; have d5 := s1.cell 5; simp [OpD.cells] at d0 d2 d5; have c0 := (HV.out.below s1.bel hvlt).c0; have hcw := HC.out _ s1.bel; have y0 : w1.cell? ⟨b, off + i * 5, none⟩ = some (.string ep) := hcw 0 _ rfl; have y1 := hcw 1 _ rfl; have y2 := hcw 2 _ rfl; have y3 := hcw 3 _ rfl; have y4 := hcw 4 _ rfl; clear hcw; have EB := hidD (Eb.start w1 ⟨ep, false, ei, ez, em⟩); have hw1 := s1.bel.size; have hol := s1.lt; have hvb1 : vb < w1.heap.size := Nat.lt_of_lt_of_le hvlt hw1; have hbb1 : b < w1.heap.size := Nat.lt_of_lt_of_le hlb hw1; have u1 := s1.bel.trans (EB.out.bel.mono hw1)) | (go_at_call 67; refine (HB.out _ u1).mono ?_; rintro r w3 ⟨rfl, hb3⟩; rw [hbl]; have s3 := EB.out.below hb3; have u3 := s1.bel.trans (s3.bel.mono hw1); have e3 := (HV.out.below u3 hvlt).c0) | (go_at_call 64; refine (HW.out _ u3).mono ?_; rintro r w5 ⟨v5, rfl, hown5, hb5⟩; obtain ⟨a5, n5, q5, hv5⟩ := own_shape hown5; subst hv5; have u5 := u3.trans (hb5.mono u3.size); have k5 := HK.out.below u5 hvlt; have f5 := k5.frozen 0; have g5 := k5.vol.c0))
        go_ret
        obtain ⟨q1, q2⟩ := k5.set (.slice a5 n5 q5)
        exact ⟨rfl, _, q1, own_set hvlt (own_mono hown5 u3.size) q2, grown_of u5 q2⟩
      · simp only [if_true]
        unfold DoA
        go_enter Tryz.func40, Tryz.ntmps40
        go_wp2_with (first | (go_at_call 63; refine (HF.out _ ST.out.bel).mono ?_; rintro r w1 ⟨rfl, hb1⟩; have s1 := ST.out.below hb1; have d0 := s1.cell 0; have d2 := s1.cell 2; have d5 := s1.cell 5; simp [OpD.cells] at d0 d2 d5; have c0 := (HV.out.below s1.bel hvlt).c0; have hcw := HC.out _ s1.bel; have y0 : w1.cell? ⟨b, off + i * 5, none⟩ = some (.string ep) := hcw 0 _ rfl; have y1 := hcw 1 _ rfl; have y2 := hcw 2 _ rfl; have y3 := hcw 3 _ rfl; have y4 := hcw 4 _ rfl; clear hcw; have EB := hidD (Eb.start w1 ⟨ep, false, ei, ez, em⟩); have hw1 := s1.bel.size; have hol := s1.lt; have hvb1 : vb < w1.heap.size := Nat.lt_of_lt_of_le hvlt hw1; have hbb1 : b < w1.heap.size := Nat.lt_of_lt_of_le hlb hw1; have u1 := s1.bel.trans (EB.out.bel.mono hw1)) | (go_at_call 67; refine (HB.out _ u1).mono ?_; rintro r w3 ⟨rfl, hb3⟩; rw [hbl]; have s3 := EB.out.below hb3; have u3 := s1.bel.trans (s3.bel.mono hw1); have e3 := (HV.out.below u3 hvlt).c0))
        go_ret
        exact ⟨rfl, u3⟩
    · simp only [ne_eq, Bool.true_eq_false, not_false_eq_true, if_true]
      unfold DoA
      go_enter Tryz.func40, Tryz.ntmps40
      go_wp2_with (go_at_call 63; refine (HF.out _ ST.out.bel).mono ?_; rintro r w1 ⟨rfl, hb1⟩; have s1 := ST.out.below hb1; have d0 := s1.cell 0; have d2 := s1.cell 2; have d5 := s1.cell 5; simp [OpD.cells] at d0 d2 d5; have c0 := (HV.out.below s1.bel hvlt).c0; have hcw := HC.out _ s1.bel; have y0 : w1.cell? ⟨b, off + i * 5, none⟩ = some (.string ep) := hcw 0 _ rfl; have y1 := hcw 1 _ rfl; have y2 := hcw 2 _ rfl; have y3 := hcw 3 _ rfl; have y4 := hcw 4 _ rfl; clear hcw; have EB := hidD (Eb.start w1 ⟨ep, true, ei, ez, em⟩); have hw1 := s1.bel.size; have hol := s1.lt; have hvb1 : vb < w1.heap.size := Nat.lt_of_lt_of_le hvlt hw1; have hbb1 : b < w1.heap.size := Nat.lt_of_lt_of_le hlb hw1; have u1 := s1.bel.trans (EB.out.bel.mono hw1))
      go_ret
      exact ⟨rfl, u1⟩

set_option maxHeartbeats 8000000 in
set_option maxRecDepth 100000 in
theorem refDo_copy {b off cap : Nat} (V : Vm w vb (.slice (some ⟨b, off, none⟩) L.length cap) L fold space) (hk : Vk 74 w vb (.slice (some ⟨b, off, none⟩) L.length cap) fold space []) (hlb : b < w.heap.size) (hc : EntsAt w b off L) (path dest : ByteArray) (id size mode : Int) (hs : path.size ≤ 1000) (i : Nat) (hlt : i < L.length) (hi : fstI (isAt fold path.data.toList) L = i) (ep : ByteArray) (ed : Bool) (ei ez em : Int) (he : L[i] = ⟨ep, ed, ei, ez, em⟩) (hds : dest.size ≤ 1000) (hpl : ∀ t, placeL fold L dest.data.toList = some t → t.length ≤ 1500000) (hz : ed = false → 0 ≤ ez ∧ ez ≤ 100) (kind : Int) (h5 : kind = 5) :
    Calls Tryz.prog 40 #[.pointer (some ⟨vb, 0, none⟩), .agg #[.int .i64 kind, .string path, .string dest, .int .i64 id, .int .i64 size, .int .i64 mode]] w fun r w' => DoA 74 w vb fold space [] (if ed = true then .error 10 else mkL fold space L ⟨dest, false, ei, ez, mode⟩) r w' := by
  subst h5
  have ST := hidD (Ob.start w ⟨5, path, dest, id, size, mode⟩)
  have HF := hidD (fun (u : World) (hu : Below w.heap.size w u) => refAt (V.below hu).vol (V.below hu).row V.smallL path (by omega))
  rw [hi] at HF
  have HV := hidD V.vol
  have HK := hidD hk
  have hvlt := V.vol.lt
  have hll := V.len
  have HW := hidD (fun (u : World) (hu : Below w.heap.size w u) => refWithout_row b off cap L i u (by omega) (by have := hu.size; omega) (hc.below hu hlb))
  have hes : ep.size ≤ 1500000 := by have := V.small _ (List.getElem_mem hlt); rw [he] at this; exact this
  have HB := hidD (fun (u : World) (hu : Below w.heap.size w u) => refAnyBelow_row (V.below hu).vol (by have := hu.size; omega) (hc.below hu hlb) V.smallL ep hes)
  have HC : Hid (∀ (u : World), Below w.heap.size w u → ∀ (j : Nat) (v : Value), (EntD.mk ep ed ei ez em).cells[j]? = some v → u.cell? ⟨b, off + i * 5 + j, none⟩ = some v) := fun u hu => by have := (hc.below hu hlb) i hlt; rw [he] at this; exact this
  cases ed
  · obtain ⟨hz0, hz1⟩ := hz rfl
    have HM := hidD (fun (u : World) (hu : Below w.heap.size w u) => refMake_f (V.below hu) (hk.below hu hk.lt) dest ei ez mode (by omega) hpl hz0 hz1)
    clear V hk hc hi he
    simp only [Bool.false_eq_true, if_false]
    generalize mkL fold space L ⟨dest, false, ei, ez, mode⟩ = X at *
    go_enter Tryz.func40, Tryz.ntmps40
    go_wp2_with (first | (go_at_call 63; refine (HF.out _ ST.out.bel).mono ?_; rintro r w1 ⟨rfl, hb1⟩; have s1 := ST.out.below hb1; have d0 := s1.cell 0; have d2 := s1.cell 2; have d5 := s1.cell 5; simp [OpD.cells] at d0 d2 d5; have c0 := (HV.out.below s1.bel hvlt).c0; have hcw := HC.out _ s1.bel; have y0 : w1.cell? ⟨b, off + i * 5, none⟩ = some (.string ep) := hcw 0 _ rfl; have y1 := hcw 1 _ rfl; have y2 := hcw 2 _ rfl; have y3 := hcw 3 _ rfl; have y4 := hcw 4 _ rfl; clear hcw; have EB := hidD (Eb.start w1 ⟨ep, false, ei, ez, em⟩); have hw1 := s1.bel.size; have hol := s1.lt; have hvb1 : vb < w1.heap.size := Nat.lt_of_lt_of_le hvlt hw1; have hbb1 : b < w1.heap.size := Nat.lt_of_lt_of_le hlb hw1; have u1 := s1.bel.trans (EB.out.bel.mono hw1)) | (go_at_call 62; refine (HM.out _ u1).mono ?_; intro r w3 hd; obtain rfl := hd.ret))
    go_ret
    exact DoA.of_below u1 hd
  · clear V hk hc hi he
    simp only [if_true]
    unfold DoA
    go_enter Tryz.func40, Tryz.ntmps40
    go_wp2_with (go_at_call 63; refine (HF.out _ ST.out.bel).mono ?_; rintro r w1 ⟨rfl, hb1⟩; have s1 := ST.out.below hb1; have d0 := s1.cell 0; have d2 := s1.cell 2; have d5 := s1.cell 5; simp [OpD.cells] at d0 d2 d5; have c0 := (HV.out.below s1.bel hvlt).c0; have hcw := HC.out _ s1.bel; have y0 : w1.cell? ⟨b, off + i * 5, none⟩ = some (.string ep) := hcw 0 _ rfl; have y1 := hcw 1 _ rfl; have y2 := hcw 2 _ rfl; have y3 := hcw 3 _ rfl; have y4 := hcw 4 _ rfl; clear hcw; have EB := hidD (Eb.start w1 ⟨ep, true, ei, ez, em⟩); have hw1 := s1.bel.size; have hol := s1.lt; have hvb1 : vb < w1.heap.size := Nat.lt_of_lt_of_le hvlt hw1; have hbb1 : b < w1.heap.size := Nat.lt_of_lt_of_le hlb hw1; have u1 := s1.bel.trans (EB.out.bel.mono hw1))
    go_ret
    exact ⟨rfl, u1⟩

set_option maxHeartbeats 8000000 in
set_option maxRecDepth 100000 in
theorem refDo_ren {b off cap : Nat} (V : Vm w vb (.slice (some ⟨b, off, none⟩) L.length cap) L fold space) (hk : Vk 74 w vb (.slice (some ⟨b, off, none⟩) L.length cap) fold space []) (hlb : b < w.heap.size) (hc : EntsAt w b off L) (path dest : ByteArray) (id size mode : Int) (hs : path.size ≤ 1000) (i : Nat) (hlt : i < L.length) (hi : fstI (isAt fold path.data.toList) L = i) (ep : ByteArray) (ed : Bool) (ei ez em : Int) (he : L[i] = ⟨ep, ed, ei, ez, em⟩) (X : Except Int (List EntD)) (HRN : ∀ u : World, Below w.heap.size w u → Calls Tryz.prog 66 #[.pointer (some ⟨vb, 0, none⟩), .int .i64 i, .string dest] u fun r w' => DoA 74 u vb fold space [] X r w') (kind : Int) (h6 : kind = 6) :
    Calls Tryz.prog 40 #[.pointer (some ⟨vb, 0, none⟩), .agg #[.int .i64 kind, .string path, .string dest, .int .i64 id, .int .i64 size, .int .i64 mode]] w fun r w' => DoA 74 w vb fold space [] X r w' := by
  subst h6
  have ST := hidD (Ob.start w ⟨6, path, dest, id, size, mode⟩)
  have HM := hidD HRN
  have HF := hidD (fun (u : World) (hu : Below w.heap.size w u) => refAt (V.below hu).vol (V.below hu).row V.smallL path (by omega))
  rw [hi] at HF
  have HV := hidD V.vol
  have HK := hidD hk
  have hvlt := V.vol.lt
  have hll := V.len
  have HW := hidD (fun (u : World) (hu : Below w.heap.size w u) => refWithout_row b off cap L i u (by omega) (by have := hu.size; omega) (hc.below hu hlb))
  have hes : ep.size ≤ 1500000 := by have := V.small _ (List.getElem_mem hlt); rw [he] at this; exact this
  have HB := hidD (fun (u : World) (hu : Below w.heap.size w u) => refAnyBelow_row (V.below hu).vol (by have := hu.size; omega) (hc.below hu hlb) V.smallL ep hes)
  have HC : Hid (∀ (u : World), Below w.heap.size w u → ∀ (j : Nat) (v : Value), (EntD.mk ep ed ei ez em).cells[j]? = some v → u.cell? ⟨b, off + i * 5 + j, none⟩ = some v) := fun u hu => by have := (hc.below hu hlb) i hlt; rw [he] at this; exact this
  clear V hk hc hi he HRN
  go_enter Tryz.func40, Tryz.ntmps40
  go_wp2_with (first | (go_at_call 63; refine (HF.out _ ST.out.bel).mono ?_; rintro r w1 ⟨rfl, hb1⟩; have s1 := ST.out.below hb1; have d0 := s1.cell 0; have d2 := s1.cell 2; have d5 := s1.cell 5; simp [OpD.cells] at d0 d2 d5; have c0 := (HV.out.below s1.bel hvlt).c0; have hcw := HC.out _ s1.bel; have y0 : w1.cell? ⟨b, off + i * 5, none⟩ = some (.string ep) := hcw 0 _ rfl; have y1 := hcw 1 _ rfl; have y2 := hcw 2 _ rfl; have y3 := hcw 3 _ rfl; have y4 := hcw 4 _ rfl; clear hcw; have EB := hidD (Eb.start w1 ⟨ep, ed, ei, ez, em⟩); have hw1 := s1.bel.size; have hol := s1.lt; have hvb1 : vb < w1.heap.size := Nat.lt_of_lt_of_le hvlt hw1; have hbb1 : b < w1.heap.size := Nat.lt_of_lt_of_le hlb hw1; have u1 := s1.bel.trans (EB.out.bel.mono hw1)) | (go_at_call 66; refine (HM.out _ u1).mono ?_; intro r w3 hd; obtain rfl := hd.ret))
  go_ret
  exact DoA.of_below u1 hd
end
end Go.Proofs.YtpjjagalekolaaaGreatDoor

