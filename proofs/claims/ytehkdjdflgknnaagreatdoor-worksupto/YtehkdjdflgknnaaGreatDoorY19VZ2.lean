/- The program's Try. -/
import Derived.Test.YtehkdjdflgknnaaGreatDoorY17
namespace Go.Proofs.YtehkdjdflgknnaaGreatDoor
open Go.RowKit
set_option linter.unusedVariables false
set_option linter.unusedSimpArgs false

theorem results_tmp4 {fn : Func} {t u v x : Tmp} (h : fn.results = #[.tmp t, .tmp u, .tmp v, .tmp x]) (tmps : Array Value) (P : Program) (w : World) :
    (results fn tmps).run P w = .ok (.tuple #[tmps.getD t undef, tmps.getD u undef, tmps.getD v undef, tmps.getD x undef]) w := by
  simp [results, h]

theorem vclone {w : World} {v : Value} {L : List EntD} (hr : RowAt w v L) (hl : L.length ≤ 1000) :
    Calls Tryz.prog 49 #[v] w fun e w' => ∃ v', e = .returned v' ∧ w'.ownsRow w.heap.size 75 5 v' L.length (flatE L) ∧ Below w.heap.size w w' := by
  cases hr with
  | nil => exact (clone_nil w).mono (by rintro e w' ⟨rfl, rfl⟩; exact ⟨_, rfl, World.ownsRow_nil _ _ _ _, Below.refl _ _⟩)
  | row b off cap l hlb hc hm h => exact clone_row b off cap L w hl hlb h

/-- What Try answers. -/
def TryA (w : World) (x : Except (Int × Int) (List EntD × Int)) (r : Ending) (w' : World) : Prop :=
  match x with
  | .error (c, k) => r = .returned (.tuple #[.slice none 0 0, .int .i64 0, .int .i64 c, .int .i64 k]) ∧ Below w.heap.size w w'
  | .ok (M, need) => ∃ v, r = .returned (.tuple #[v, .int .i64 need, .int .i64 0, .int .i64 0]) ∧ w'.ownsRow w.heap.size 75 5 v M.length (flatE M) ∧ Below w.heap.size w w'

theorem needL_take (n : Int) (Ls : List (List EntD)) (k : Nat) (h : k < Ls.length) : needL n (Ls.take (k + 1)) = max (needL n (Ls.take k)) (usedL Ls[k]) := by
  rw [List.take_succ_eq_append_getElem h, needL_snoc]
theorem needL_le {fold : Bool} (Ls : List (List EntD)) (h : ∀ N ∈ Ls, VolOk fold N) : ∀ n, 0 ≤ n → n ≤ 12000 → 0 ≤ needL n Ls ∧ needL n Ls ≤ 12000 := by
  induction Ls with
  | nil => intro n h0 h1; exact ⟨h0, h1⟩
  | cons N Ls ih =>
    intro n h0 h1
    have := used_le (h N (by simp))
    exact ih (fun M hM => h M (by simp [hM])) (max n (usedL N)) (by omega) (by omega)

set_option maxHeartbeats 8000000 in
set_option maxRecDepth 100000 in
theorem vTry {w : World} {sv lv : Value} {L : List EntD} {l : List OpD} (fold : Bool) (hr : RowAt w sv L) (hs : SmallL L) (hg : Gd w) (ho : OpRow w lv l) (hl : l.length ≤ 2000000) (hos : ∀ o ∈ l, o.small) (X : Except (Int × Int) (List EntD × Int)) (hX : tryP fold 9223372036854775807 L l = X) :
    Calls Tryz.prog 30 #[sv, .bool fold, lv] w fun r w' => TryA w X r w' := by
  have HC := hidD (vcourse fold hr hs hg ho hl hos X hX)
  obtain ⟨sa, sc, rfl⟩ := hr.val
  obtain ⟨la, lc, rfl⟩ := ho.val
  clear hX hr ho hg hos
  cases X with
  | error ck =>
    obtain ⟨c, k⟩ := ck
    unfold CrsA at HC
    unfold TryA
    go_enter Tryz.func30, Tryz.ntmps30
    go_wp2_with (go_at_call 47; refine HC.out.mono ?_; rintro r w1 ⟨rfl, hc0, hb1⟩; have hcn : (c != 0) = true := (by simpa using hc0))
    refine bodyPost_ret (results_tmp4 rfl _ _ _) rfl ?_
    exact ⟨rfl, hb1⟩
  | ok mn =>
    obtain ⟨M, need⟩ := mn
    unfold CrsA at HC
    unfold TryA
    go_enter Tryz.func30, Tryz.ntmps30
    go_wp2_with (go_at_call 47; refine HC.out.mono ?_; rintro r w1 ⟨g, cap, vs, Ls, rfl, hb1, hvl, hLl, hcells, hrows, hok, hM, hneed⟩)
    have HCE := hidD hcells
    have HRW := hidD hrows
    have HOK := hidD hok
    have HM := hidD hM
    have HN := hidD hneed
    have HB1 := hidD hb1
    have hb1s := hb1.size
    clear hcells hrows hok hM hneed hb1
    go_loopw [13, 30] (fun mv iv wr => ∃ k : Nat, k ≤ l.length + 1 ∧ iv = .int .i64 k ∧ mv = .int .i64 (needL 0 (Ls.take k)) ∧ Hid (Below w1.heap.size w1 wr)) (fun _ iv _ => l.length + 1 - (intOf iv).toNat)
    case atStart => exact ⟨0, Nat.zero_le _, rfl, rfl, hidD (Below.refl _ _)⟩
    case round =>
      obtain ⟨k, hk, rfl, rfl, HB⟩ := hrel
      by_cases hlk : k < l.length + 1
      · have hkv : k < vs.length := by omega
        have hkL : k < Ls.length := by omega
        have hgw : g < w1.heap.size := World.block_lt_of_cell? w1 ⟨g, k, none⟩ (HCE.out k hkv)
        have c0 := cell_kept HB.out hgw (HCE.out k hkv)
        have K := HOK.out _ (List.getElem_mem hkL)
        have HZ := hidD (vsizes (HRW.out k hkv hkL) K.few K.sizesOk wr HB.out)
        obtain ⟨av, cv, hval⟩ := (HRW.out k hkv hkL).val
        have HNT := hidD (needL_take 0 Ls k hkL)
        have hn1 := needL_le (Ls.take k) (fun N hN => HOK.out N (List.mem_of_mem_take hN)) 0 (by omega) (by omega)
        have hu1 := used_le K
        obtain ⟨hn2, hn3⟩ := hn1
        obtain ⟨hu2, hu3⟩ := hu1
        rw [hval] at c0 HZ
        generalize Ls[k].length = nn at *
        generalize usedL Ls[k] = us at *
        generalize needL 0 (Ls.take k) = nd at *
        clear hval K
        go_wp2_with (go_at_call 48; refine HZ.out.mono ?_; rintro r w3 ⟨rfl, hb3⟩)
        refine ⟨⟨k + 1, by omega, by go_num, ?_, hidD (HB.out.trans (hb3.mono HB.out.size))⟩, by simp [intOf]; omega⟩
        rw [HNT.out]
      · have hkv : l.length < vs.length := by omega
        have hkL : l.length < Ls.length := by omega
        obtain rfl : k = l.length + 1 := by omega
        have hgw : g < w1.heap.size := World.block_lt_of_cell? w1 ⟨g, l.length, none⟩ (HCE.out l.length hkv)
        have c0 := cell_kept HB.out hgw (HCE.out l.length hkv)
        have K := HOK.out _ (List.getElem_mem hkL)
        have hML : Ls[l.length] = M := by
          have := HM.out
          rw [List.getElem?_eq_getElem hkL] at this
          exact Option.some.inj this
        have hr5 := (HRW.out l.length hkv hkL).below HB.out (Nat.le_refl _)
        rw [hML] at hr5 K
        have HZ := hidD (vclone hr5 (by have := K.few; omega))
        obtain ⟨av, cv, hval⟩ := hr5.val
        rw [hval] at c0 HZ
        have HNN : Hid (needL 0 (Ls.take (l.length + 1)) = need) := by
          show needL 0 (Ls.take (l.length + 1)) = need
          rw [List.take_of_length_le (by omega)]; exact HN.out
        rw [HNN.out]
        have hbs := HB.out.size
        clear hr5 hval K hML HNN HN
        go_wp2_with (go_at_call 49; refine HZ.out.mono ?_; rintro r w4 ⟨v4, rfl, hown4, hb4⟩; obtain ⟨a4, n4, q4, hv4⟩ := own_shape hown4; subst hv4)
        refine bodyPost_ret (results_tmp4 rfl _ _ _) rfl ?_
        exact ⟨_, rfl, own_mono (B' := w.heap.size) hown4 (by omega), (HB1.out.trans (HB.out.mono hb1s)).trans (hb4.mono (by omega))⟩
end Go.Proofs.YtehkdjdflgknnaaGreatDoor

