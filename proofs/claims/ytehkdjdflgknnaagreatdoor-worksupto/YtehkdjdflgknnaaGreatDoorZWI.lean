/- The document's Work on its volume. -/
import Derived.Test.YtehkdjdflgknnaaGreatDoorZWF
import Derived.Test.YtehkdjdflgknnaaGreatDoorY23
namespace Go.Proofs.YtehkdjdflgknnaaGreatDoor
open Go.RowKit
set_option linter.unusedVariables false
set_option linter.unusedSimpArgs false

structure RkSt (w0 : World) (vb : Nat) (fold : Bool) (space : Int) (v0 : Value) (V0 : List EntD) (u : World) (v : Value) (V : List EntD) : Prop where
  gr : w0.grownBy u (some vb)
  vk : Vk 65 u vb v fold space []
  row : (v = v0 ∧ V = V0) ∨ u.ownsRow w0.heap.size 75 5 v V.length (flatE V)
theorem RkSt.start {w0 : World} {vb : Nat} {fold : Bool} {space : Int} {v0 : Value} {V0 : List EntD} (h : Vk 65 w0 vb v0 fold space []) : RkSt w0 vb fold space v0 V0 w0 v0 V0 :=
  ⟨⟨rfl, rfl, rfl, Nat.le_refl _, fun _ _ _ => rfl⟩, h, .inl ⟨rfl, rfl⟩⟩
theorem RkSt.rowAt {w0 : World} {vb : Nat} {fold : Bool} {space : Int} {v0 : Value} {V0 : List EntD} {u : World} {v : Value} {V : List EntD} (h : RkSt w0 vb fold space v0 V0 u v V) (hk : Vk 65 w0 vb v0 fold space []) (hr : RowAt w0 v0 V0) : RowAt u v V := by
  rcases h.row with ⟨rfl, rfl⟩ | ho
  · exact hr.grown hk (by simp) h.gr
  · exact RowAt.ofOwn ho
theorem RkSt.below {w0 : World} {vb : Nat} {fold : Bool} {space : Int} {v0 : Value} {V0 : List EntD} {u u' : World} {v : Value} {V : List EntD} (h : RkSt w0 vb fold space v0 V0 u v V) (hb : Below u.heap.size u u') : RkSt w0 vb fold space v0 V0 u' v V :=
  ⟨⟨hb.os.trans h.gr.os, hb.tape.trans h.gr.tape, hb.output.trans h.gr.output, Nat.le_trans h.gr.size hb.size, fun k hk hne => (hb.block k (Nat.lt_of_lt_of_le hk h.gr.size)).trans (h.gr.block k hk hne)⟩, h.vk.below hb h.vk.lt, h.row.imp id (own_below hb)⟩
theorem RkSt.did {w0 : World} {vb : Nat} {fold : Bool} {space : Int} {v0 : Value} {V0 : List EntD} {u u' : World} {v v' : Value} {V M : List EntD} (h : RkSt w0 vb fold space v0 V0 u v V) (hk : Vk 65 u' vb v' fold space []) (ho : u'.ownsRow u.heap.size 75 5 v' M.length (flatE M)) (hg : u.grownBy u' (some vb)) : RkSt w0 vb fold space v0 V0 u' v' M :=
  ⟨h.gr.trans hg, hk, .inr (own_mono ho h.gr.size)⟩
theorem RkSt.from_below {w w0 : World} {vb : Nat} {fold : Bool} {space : Int} {v0 : Value} {V0 : List EntD} {u : World} {v : Value} {V : List EntD} (hb : Below w.heap.size w w0) (h : RkSt w0 vb fold space v0 V0 u v V) : RkSt w vb fold space v0 V0 u v V :=
  ⟨grown_of hb h.gr, h.vk, h.row.imp id (fun o => own_mono o hb.size)⟩

def RWorkA (w : World) (vb : Nat) (fold : Bool) (space : Int) (v : Value) (V S : List EntD) (l : List OpD) (r : Ending) (w' : World) : Prop :=
  ∃ (e k : Int) (v' : Value) (V' : List EntD), r = .returned (.tuple #[.int .i64 e, .int .i64 k]) ∧ RkSt w vb fold space v V w' v' V' ∧ VolOk fold V' ∧ workP fold space V S l e k V'

theorem tryP_good {fold : Bool} {space : Int} {S : List EntD} {l : List OpD} {x : List EntD × Int} (h : tryP fold space S l = .ok x) : l.length ≤ 400 ∧ ∀ o ∈ l, okOp o = true := by
  unfold tryP at h
  split at h
  · cases h
  · split at h
    · cases h
    · rename_i hf
      exact script_good (by simpa using hf)
theorem tryP_err {fold : Bool} {space : Int} {S : List EntD} {l : List OpD} {c k : Int} (ht : treeF fold S = true) (h : tryP fold space S l = .error (c, k)) : c ≠ 4 ∧ c ≠ 0 := by
  unfold tryP at h
  rw [if_neg (by rw [ht]; decide)] at h
  split at h
  · cases h
    exact ⟨by decide, by decide⟩
  · split at h
    · rename_i c' k' he
      cases h
      exact ⟨try_err4 _ _ _ _ _ _ he, try_err0 _ _ _ _ _ _ he⟩
    · cases h

set_option maxHeartbeats 8000000 in
set_option maxRecDepth 100000 in
theorem refWork {w : World} {vb : Nat} {v sv lv : Value} {V S : List EntD} {l : List OpD} {fold : Bool} {space : Int} (hk : Vk 65 w vb v fold space []) (hr : RowAt w v V) (K : VolOk fold V) (h0 : 0 ≤ space) (h1 : space ≤ 9223372036854775807) (hs : RowAt w sv S) (hS : SmallL S) (ho : OpRow w lv l) (hl : l.length ≤ 2000000) (hos : ∀ o ∈ l, o.small) :
    Calls Tryz.prog 27 #[.pointer (some ⟨vb, 0, none⟩), sv, lv] w fun r w' => RWorkA w vb fold space v V S l r w' := by
  have HC := hidD (refCheckF fold hs hS)
  have HT := hidD (fun (u : World) (hu : Below w.heap.size w u) => refTry fold (hs.below hu (Nat.le_refl _)) hS (ho.below hu (Nat.le_refl _)) hl hos _ (tryP_space fold S l))
  have HE := hidD (fun (u : World) (hu : Below w.heap.size w u) => rEq (hs.below hu (Nat.le_refl _)) (hr.below hu (Nat.le_refl _)) hS.1)
  have HK := hidD hk
  have hvlt := hk.lt
  have HR := hidD hr
  have HO := hidD ho
  have HOS := hidD hos
  have HV := hidD K
  have c1 := hk.vol.c1
  obtain ⟨sa, sc, rfl⟩ := hs.val
  obtain ⟨la, lc, rfl⟩ := ho.val
  obtain ⟨va, vc, rfl⟩ := hr.val
  have c0 := hk.vol.c0
  clear hs hS ho hos hr hk K
  cases ht : treeF fold S
  · rw [ht] at HC
    have hX : tryP fold 9223372036854775807 S l = .error (4, 0) := by rw [tryP, if_pos ht]
    have HX := hidD hX
    clear hX HT HE
    go_enter Tryz.func27, Tryz.ntmps27
    go_wp2_with (go_at_call 31; refine HC.out.mono ?_; rintro r w1 ⟨c, k, rfl, hck, hb1⟩; have hcn : (c != 0) = true := (by simp only [bne, hck]; rfl))
    go_ret2
    exact ⟨4, 0, _, V, rfl, (RkSt.start HK.out).below hb1, HV.out, by unfold workP; rw [HX.out]; exact ⟨rfl, by rw [if_pos rfl]; exact ⟨rfl, rfl⟩⟩⟩
  · rw [ht] at HC
    cases hX : tryP fold 9223372036854775807 S l with
    | error ck =>
      obtain ⟨p, q⟩ := ck
      rw [hX] at HT
      obtain ⟨hp4, hp0⟩ := tryP_err ht hX
      have hpn : (p != 0) = true := by simpa using hp0
      have HX := hidD hX
      unfold RTryA at HT
      clear hX HE
      go_enter Tryz.func27, Tryz.ntmps27
      go_wp2_with (first | (go_at_call 31; refine HC.out.mono ?_; rintro r w1 ⟨c, k, rfl, hck, hb1⟩; have hcn : (c != 0) = false := (by simp only [bne, hck]; rfl); have e1 := cell_kept hb1 hvlt c1) | (go_at_call 10; refine (HT.out _ hb1).mono ?_; rintro r w2 ⟨rfl, hb2⟩))
      go_ret2
      exact ⟨18, q, _, V, rfl, ((RkSt.start HK.out).below hb1).below hb2, HV.out, by unfold workP; rw [HX.out]; exact ⟨rfl, by rw [if_neg hp4]; exact ⟨rfl, rfl⟩⟩⟩
    | ok mn =>
      obtain ⟨M, nd⟩ := mn
      rw [hX] at HT
      unfold RTryA at HT
      have HSG := hidD (tryP_good hX).2
      have hl4 := (tryP_good hX).1
      have HX := hidD hX
      clear hX
      by_cases heq : S = V
      · have HEQ := hidD heq
        clear heq
        go_enter Tryz.func27, Tryz.ntmps27
        go_wp2_with (first | (go_at_call 31; refine HC.out.mono ?_; rintro r w1 ⟨c, k, rfl, hck, hb1⟩; have hcn : (c != 0) = false := (by simp only [bne, hck]; rfl); have e1 := cell_kept hb1 hvlt c1; have hvlt1 := Nat.lt_of_lt_of_le hvlt hb1.size) | (go_at_call 10; refine (HT.out _ hb1).mono ?_; rintro r w2 ⟨v2, rfl, hr2, hb2⟩; obtain ⟨a2, q2, hv2⟩ := hr2.val; subst hv2; have u2 := hb1.trans (hb2.mono hb1.size); have e0 := cell_kept u2 hvlt c0) | (go_at_call 11; refine (HE.out _ u2).mono ?_; rintro r w3 ⟨b, rfl, hb, q, hw3⟩; obtain rfl : b = true := (hb.2 HEQ.out); have hb3 : Below w.heap.size w w3 := (by rw [hw3]; exact u2.trans (below_drewE _ _)); clear hb hw3))
        have HB3 := hidD hb3
        have HK3 := hidD (HK.out.below hb3 hvlt)
        have HR3 := hidD (HR.out.below hb3 (Nat.le_refl _))
        have HO3 := hidD (HO.out.below hb3 (Nat.le_refl _))
        have I0 := hidD (show VolOk fold V ∧ seqL fold space V l 0 = seqL fold space V (l.drop 0) 0 from ⟨HV.out, by rw [List.drop_zero]⟩)
        have S0 := hidD (RkSt.start (V0 := V) HK3.out)
        have HFIN := hidD (fun (e : Int) (n : Nat) (v' : Value) (V' : List EntD) (w' : World) (hw : RkSt w3 vb fold space (.slice va V.length vc) V w' v' V') (hv : VolOk fold V') (h2 : seqL fold space V l 0 = (e, n, V')) => show RWorkA w vb fold space (.slice va V.length vc) V S l (.returned (.tuple #[.int .i64 e, .int .i64 n])) w' from ⟨e, n, v', V', rfl, hw.from_below HB3.out, hv, by unfold workP; rw [HX.out]; exact .inr ⟨HEQ.out.symm, n, rfl, h2⟩⟩)
        clear HC HT HE hb1 hb2 u2 hb3 e0 e1 hr2 hcn hck HX
        go_loopw [14] (fun iv wr => ∃ (k : Nat) (v' : Value) (Vk' : List EntD), k ≤ l.length ∧ iv = .int .i64 k ∧ Hid (RkSt w3 vb fold space (.slice va V.length vc) V wr v' Vk') ∧ Hid (VolOk fold Vk' ∧ seqL fold space V l 0 = seqL fold space Vk' (l.drop k) k)) (fun iv _ => l.length - (intOf iv).toNat)
        case atStart => exact ⟨0, _, _, Nat.zero_le _, rfl, S0, I0⟩
        case round =>
          clear S0 I0
          obtain ⟨k, v', Vk', hk, rfl, SS, I⟩ := hrel
          by_cases hlk : k < l.length
          · obtain ⟨b2, off2, rfl, _, hlb2, hops⟩ := op_parts (HO3.out.grown HK3.out (by simp) SS.out.gr) hlk
            have hcw := hops k hlk
            have c0 : wr.cell? ⟨b2, off2 + k * 6, none⟩ = some (.int .i64 l[k].kind) := hcw 0 _ rfl
            have c1 := hcw 1 _ rfl
            have c2 := hcw 2 _ rfl
            have c3 := hcw 3 _ rfl
            have c4 := hcw 4 _ rfl
            have c5 := hcw 5 _ rfl
            have hok := HSG.out _ (List.getElem_mem hlk)
            have HTS := hidD (seq_step (fold := fold) (space := space) (V := Vk') hlk)
            generalize l[k] = o at *
            clear hcw hops
            have HD := hidD (refDo (Vm.of I.out.1 SS.out.vk.vol (SS.out.rowAt HK3.out HR3.out) h0 h1) I.out.1 SS.out.vk o (okOp_good hok))
            cases hd : doL fold space Vk' o with
            | error n =>
              have hn : (n != 0) = true := by simpa using do_err hd
              have hF : seqL fold space V l 0 = (n, k, Vk') := by rw [I.out.2, HTS.out, hd]
              have HF := hidD hF
              rw [hd] at HD
              unfold DoA at HD
              clear hF hd
              go_wp2_with (go_at_call 34; refine HD.out.mono ?_; rintro r w5 ⟨rfl, hb5⟩)
              go_ret2
              exact HFIN.out n k v' Vk' _ (SS.out.below hb5) I.out.1 HF.out
            | ok M2 =>
              have KM := do_ok I.out.1 (okOp_good hok) hd
              have I2 := hidD (show VolOk fold M2 ∧ seqL fold space V l 0 = seqL fold space M2 (l.drop (k + 1)) (k + 1) from ⟨KM, by rw [I.out.2, HTS.out, hd]⟩)
              rw [hd] at HD
              unfold DoA at HD
              clear hd KM HTS
              go_wp2_with (go_at_call 34; refine HD.out.mono ?_; rintro r w5 ⟨rfl, v5, hk5, ho5, hg5⟩)
              exact ⟨⟨k + 1, v5, M2, by omega, by go_num, hidD (SS.out.did hk5 ho5 hg5), I2⟩, by simp [intOf]; omega⟩
          · obtain rfl : k = l.length := by omega
            go_wp2
            go_ret2
            exact HFIN.out 0 l.length v' Vk' _ SS.out I.out.1 (by rw [I.out.2, seq_end])
      · have HNE := hidD heq
        clear heq
        go_enter Tryz.func27, Tryz.ntmps27
        go_wp2_with (first | (go_at_call 31; refine HC.out.mono ?_; rintro r w1 ⟨c, k, rfl, hck, hb1⟩; have hcn : (c != 0) = false := (by simp only [bne, hck]; rfl); have e1 := cell_kept hb1 hvlt c1) | (go_at_call 10; refine (HT.out _ hb1).mono ?_; rintro r w2 ⟨v2, rfl, hr2, hb2⟩; obtain ⟨a2, q2, hv2⟩ := hr2.val; subst hv2; have u2 := hb1.trans (hb2.mono hb1.size); have e0 := cell_kept u2 hvlt c0) | (go_at_call 11; refine (HE.out _ u2).mono ?_; rintro r w3 ⟨b, rfl, hb, q, hw3⟩; obtain rfl : b = false := (by cases b; rfl; exact absurd (hb.1 rfl) HNE.out); have hb3 : Below w.heap.size w w3 := (by rw [hw3]; exact u2.trans (below_drewE _ _)); clear hb hw3))
        go_ret2
        exact ⟨16, 0, _, V, rfl, (RkSt.start HK.out).below hb3, HV.out, by unfold workP; rw [HX.out]; exact .inl ⟨fun h => HNE.out h.symm, rfl, rfl, rfl⟩⟩
end Go.Proofs.YtehkdjdflgknnaaGreatDoor
