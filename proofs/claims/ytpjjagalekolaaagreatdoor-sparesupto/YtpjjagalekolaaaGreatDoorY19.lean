/- VH, VI, VJ, VK: in one text. -/
import Derived.Test.YtpjjagalekolaaaGreatDoorY18
import Derived.Test.YtpjjagalekolaaaGreatDoorY14
import Derived.Lib.AppendZerosOnto
/- Rows of entries put together: the library's Grow and Concat at this program. -/
namespace Go.Proofs.YtpjjagalekolaaaGreatDoor
open Go.RowKit
set_option linter.unusedVariables false
set_option linter.unusedSimpArgs false

def zeroE : Value := .agg #[.string ByteArray.empty, .bool false, .int .i64 0, .int .i64 0, .int .i64 0]

set_option maxHeartbeats 2000000 in
set_option maxRecDepth 100000 in
theorem grow_own (n : Nat) (w : World) (hn : n ≤ 1000000) :
    Calls Tryz.prog 213 #[.slice none 0 0, .int .i64 n] w fun e w' => ∃ v, e = .returned v ∧ w'.ownsRow w.heap.size 56 5 v 0 [] ∧ Below w.heap.size w w' := by
  obtain ⟨i0, hi, hz0, hz1, hz2⟩ := info_parts info56
  by_cases h0 : n = 0
  · subst h0
    go_enter Tryz.func213, Tryz.ntmps213
    go_wp2
    go_ret
    exact ⟨_, rfl, World.ownsRow_nil _ _ _ _, Below.refl _ _⟩
  · have hrun : ∀ ty, (Builtin.append_ #[22, 3] ty #[.slice none 0 0, .int .i64 n]).run Tryz.prog w =
        .ok (.slice (some ⟨w.heap.size, 0, none⟩) n (grownCap w n 0 56)) (w.drew.alloc (.cells (#[] ++ Builtin.zeroCells zeroE.cells n ++ Builtin.zeroCells zeroE.cells (grownCap w n 0 56 - n)) 56)) := fun ty => by
      have h := Lib.run_append_grow_zeros (P := Tryz.prog) w 22 3 ty 56 i0 _ .i64 .i64 Tryz.underlying22 Tryz.underlying3 hi hz0 none 0 0 [] (run_firstCells_none w.drew i0.size 0 0 0) n (by omega) (by rw [hz1]; decide) (by omega) (by omega) (by rw [hz2]; omega) (by rw [hz2]; exact growslice_fits (by omega) (by omega))
      simpa [zeroE] using h
    have hG1 := grownCap_ge w n 0 56
    have hG2 := grownCap_le_maxLen w n 0 56 (by unfold maxLen; omega)
    have hown : ∀ cur : Array Value, cur.size = grownCap w n 0 56 * 5 → (w.drew.alloc (.cells cur 56)).ownsRow w.heap.size 56 5 (.slice (some ⟨w.heap.size, 0, none⟩) 0 (grownCap w n 0 56)) 0 [] := fun cur hc => World.ownsRow_made w.drew cur (grownCap w n 0 56) (Nat.le_refl _) hG2 hc
    have HO := hidD (hown (#[] ++ Builtin.zeroCells zeroE.cells n ++ Builtin.zeroCells zeroE.cells (grownCap w n 0 56 - n)) (by
      have h5 : zeroE.cells.size = 5 := rfl
      rw [Array.size_append, Array.size_append, size_zeroCells, size_zeroCells, h5]
      simp; omega))
    clear hown
    generalize (#[] ++ Builtin.zeroCells zeroE.cells n ++ Builtin.zeroCells zeroE.cells (grownCap w n 0 56 - n)) = cur at *
    generalize grownCap w n 0 56 = G at *
    have HR := hidD hrun
    clear hrun
    have hG3 : G ≤ 9223372036854775807 := by unfold maxLen at hG2; omega
    have hnp : 0 < n := by omega
    go_enter Tryz.func213, Tryz.ntmps213
    go_wp2_with (at_builtin; refine Lib.wpList_append_run _ rfl _ _ _ _ rfl _ _ rfl rfl _ _ (HR.out _) ?_)
    go_ret
    exact ⟨_, rfl, HO.out, (Below.refl _ _).drew.alloc (Nat.le_refl _) _⟩

theorem run_append_none {P : Program} (w : World) (base : Nat) (t ty e : TypeId) (i : TypeInfo) (size : Nat) (ht : P.underlying t = some (.slice e)) (hi : P.info? e = some i) (hsize : i.size = size)
    (v : Value) (n : Nat) (xs : List Value) (hown : w.ownsRow base e size v n xs) : (Builtin.append_ #[t, t] ty #[v, .slice none 0 0]).run P w = .ok v w := by
  rcases hown.2 with ⟨rfl, rfl⟩ | ⟨g, cap, cur, rfl, hB, hg, hn, hm, hs, hx⟩
  · simp [Builtin.append_, run_underlying ht, sizeOf, typeInfo, hi, Builtin.lenOf, Builtin.firstCells, loadCells, loadCellsFrom]
  · simp [Builtin.append_, run_underlying ht, sizeOf, typeInfo, hi, Builtin.lenOf, Builtin.firstCells, loadCells, loadCellsFrom, storeCells, hn]

def sumL (ls : List (List EntD)) : Nat := ls.flatten.length
theorem sumL_snoc (ls : List (List EntD)) (k : Nat) (h : k < ls.length) : sumL (ls.take (k + 1)) = sumL (ls.take k) + ls[k].length := by
  unfold sumL
  rw [List.take_succ_eq_append_getElem h, List.flatten_append]; simp
theorem flat_snoc (ls : List (List EntD)) (k : Nat) (h : k < ls.length) : flatE (ls.take (k + 1)).flatten = flatE (ls.take k).flatten ++ flatE ls[k] := by
  rw [List.take_succ_eq_append_getElem h, List.flatten_append]; simp [flatE]
theorem sumL_le (ls : List (List EntD)) (k : Nat) : sumL (ls.take k) ≤ sumL ls := by
  unfold sumL
  have h : ls = ls.take k ++ ls.drop k := (List.take_append_drop k ls).symm
  calc (ls.take k).flatten.length ≤ (ls.take k).flatten.length + (ls.drop k).flatten.length := Nat.le_add_right _ _
    _ = ls.flatten.length := by rw [← List.length_append, ← List.flatten_append, ← h]

theorem RowAt.ofOwn {w : World} {B : Nat} {v : Value} {l : List EntD} (h : w.ownsRow B 56 5 v l.length (flatE l)) : RowAt w v l := by
  have hc := h
  rcases h.2 with ⟨rfl, h0⟩ | ⟨g, cap, cur, rfl, hB, hg, hn, hm, _⟩
  · obtain rfl : l = [] := List.eq_nil_of_length_eq_zero h0
    exact .nil
  · refine .row g 0 cap l (heap_lt hg) hn hm (at_flatE fun j u hu => ?_)
    have := hc.cells (g := g) rfl j u hu
    have e2 : ((⟨g, 0, none⟩ : Addr).add j) = ⟨g, j, none⟩ := by unfold Addr.add; split <;> simp_all
    rwa [e2] at this

set_option maxHeartbeats 4000000 in
set_option maxRecDepth 100000 in
theorem concat_any (pb n : Nat) (vs : List Value) (ls : List (List EntD)) (w : World) (hn : vs.length = n) (hls : ls.length = n) (hn3 : n ≤ 3) (hsum : sumL ls ≤ 1000) (hpb : pb < w.heap.size)
    (hcs : ∀ (k : Nat) (h : k < vs.length), w.cell? ⟨pb, k, none⟩ = some vs[k]) (hrs : ∀ (k : Nat) (h : k < vs.length) (h' : k < ls.length), RowAt w vs[k] ls[k]) :
    Calls Tryz.prog 196 #[.slice (some ⟨pb, 0, none⟩) n n] w fun e w' => ∃ v, e = .returned v ∧ w'.ownsRow w.heap.size 56 5 v ls.flatten.length (flatE ls.flatten) ∧ Below w.heap.size w w' := by
  obtain ⟨i0, hi, hz0, hz1, hz2⟩ := info_parts info56
  have HS := hidD (sumL_snoc ls)
  have HF := hidD (flat_snoc ls)
  have HC := hidD hcs
  have HR := hidD hrs
  have HL := hidD (sumL_le ls)
  clear hcs hrs
  go_enter Tryz.func196, Tryz.ntmps196
  go_wp2
  go_loopw [3, 11] (fun s i wr => ∃ k : Nat, k ≤ n ∧ i = .int .i64 k ∧ s = .int .i64 (sumL (ls.take k)) ∧ w = wr) (fun _ i _ => n - (intOf i).toNat)
  case atStart => exact ⟨0, Nat.zero_le _, rfl, rfl, rfl⟩
  case round =>
    obtain ⟨k, hk, rfl, rfl, rfl⟩ := hrel
    have hle := HL.out k
    by_cases hlt : k < n
    · have c0 := HC.out k (by omega)
      have hl' := HL.out (k + 1)
      have hsn := HS.out k (by omega)
      obtain ⟨a, c, hv⟩ := (HR.out k (by omega) (by omega)).val
      rw [hv] at c0
      generalize ls[k].length = m at *
      generalize sumL (ls.take k) = s at *
      have hm : s + m ≤ 1000 := by omega
      go_wp2
      exact ⟨⟨k + 1, by omega, by go_num, by rw [hsn]; go_num, by first | rfl | trivial⟩, by simp [intOf]; omega⟩
    · obtain rfl : k = n := by omega
      rw [List.take_of_length_le (by omega)]
      generalize hT : sumL ls = T at *
      go_wp2_with (go_at_call 213; refine (grow_own T _ (by omega)).mono ?_; rintro e w1 ⟨v1, rfl, hown1, hb1⟩)
      go_loopw [6, 27] (fun v i wr => ∃ j : Nat, j ≤ k ∧ i = .int .i64 j ∧ wr.ownsRow w.heap.size 56 5 v (sumL (ls.take j)) (flatE (ls.take j).flatten) ∧ Below w.heap.size w wr) (fun _ i _ => k - (intOf i).toNat)
      case atStart => exact ⟨0, Nat.zero_le _, rfl, by simpa [sumL, flatE] using hown1, hb1⟩
      case round =>
        obtain ⟨j, hj, rfl, hown, hbw⟩ := hrel
        have hbs := hbw.size
        by_cases hjk : j < k
        · have c0 := cell_kept hbw hpb (HC.out j (by omega))
          have hl' := HL.out (j + 1)
          have hl0 := HL.out j
          have hsn := HS.out j (by omega)
          have hfn := HF.out j (by omega)
          have hr := (HR.out j (by omega) (by omega)).below hbw (Nat.le_refl _)
          have HB := hidD hbw
          clear hbw
          generalize ls[j] = l at *
          generalize vs[j] = pv at *
          generalize hS0 : sumL (ls.take j) = s0 at *
          generalize hF0 : flatE (ls.take j).flatten = f0 at *
          cases hr with
          | nil =>
            have HN := hidD (fun ty => run_append_none (P := Tryz.prog) wr _ 22 ty 56 i0 5 Tryz.underlying22 hi hz1 _ _ _ hown)
            have HO := hidD hown
            clear hown
            go_wp2_with (at_builtin; refine Lib.wpList_append_run _ rfl _ _ _ _ rfl _ _ rfl rfl _ _ (HN.out _) ?_)
            exact ⟨⟨j + 1, by omega, by go_num, by rw [hsn, hfn]; simpa [flatE] using HO.out, HB.out⟩, by simp [intOf]; omega⟩
          | row b off cap l hlb hc hm h =>
            have HE := hidD (flatE_at h)
            clear h
            go_wp2_with (at_builtin; refine wpList_append_own _ rfl _ _ 22 rfl w.heap.size 56 i0 _ 5 48 Tryz.underlying22 hi hz0 hz1 hz2 rfl (by decide) _ _ _ rfl hown ⟨b, off, none⟩ l.length cap (flatE l) rfl (flatE_length l) HE.out (flatE_one l) (by unfold maxLen; omega) (by omega) hbs ?_; intro v2 w2 hown2 hg2 _)
            exact ⟨⟨j + 1, by omega, by go_num, by rw [hsn, hfn]; exact hown2, HB.out.grown hg2 hbs (fun q hq => (hown.lt q hq).1)⟩, by simp [intOf]; omega⟩
        · obtain rfl : j = k := by omega
          rw [List.take_of_length_le (by omega)] at hown
          go_wp2
          go_ret
          exact ⟨_, rfl, hown, hbw⟩
end Go.Proofs.YtpjjagalekolaaaGreatDoor

/- The library's BinarySearchFunc at this program: where an entry goes in. -/
namespace Go.Proofs.YtpjjagalekolaaaGreatDoor
open Go.RowKit
set_option linter.unusedVariables false
set_option linter.unusedSimpArgs false

set_option maxHeartbeats 1000000 in
theorem byPath_any (p q : ByteArray) (d d' : Bool) (i z m i' z' m' : Int) (w : World) (h1 : p.size ≤ 1500000) (h2 : q.size ≤ 1500000) :
    Calls Tryz.prog 195 #[.agg #[.string p, .bool d, .int .i64 i, .int .i64 z, .int .i64 m], .agg #[.string q, .bool d', .int .i64 i', .int .i64 z', .int .i64 m']] w fun e w' => e = .returned (.int .i64 (cmpL p.data.toList q.data.toList)) ∧ Below w.heap.size w w' := by
  go_enter Tryz.func195, Tryz.ntmps195
  go_wp2_with (go_at_call 177; refine (compare_any p q _ (by omega) (by omega)).mono ?_; rintro e w1 ⟨rfl, nq, rfl⟩)
  go_ret
  exact ⟨rfl, (((Below.refl _ _).alloc (Nat.le_refl _) _).alloc (by simp) _).trans (below_drewE _ nq)⟩

theorem srt_lo {L : List EntD} (h : Srt L) {m : Nat} (hm : m < L.length) {e : BL} (hk : key L[m].pl < key e) : ∀ (j : Nat) (hj : j < L.length), j < m + 1 → key L[j].pl < key e := by
  intro j hj hlt
  by_cases e : j = m
  · subst e; exact hk
  · exact List.lt_trans (h.at j m hj hm (by omega)) hk
theorem srt_hi {L : List EntD} (h : Srt L) {m : Nat} (hm : m < L.length) {e : BL} (hk : ¬ key L[m].pl < key e) : ∀ (j : Nat) (hj : j < L.length), m ≤ j → ¬ key L[j].pl < key e := by
  intro j hj hle hlt
  by_cases e : j = m
  · subst e; exact hk hlt
  · exact hk (List.lt_trans (h.at m j hm hj (by omega)) hlt)

set_option maxHeartbeats 4000000 in
set_option maxRecDepth 100000 in
theorem search_any (b off cap : Nat) (L : List EntD) (e : EntD) (w : World) (hl : L.length ≤ 2000000) (hs : ∀ o ∈ L, o.small) (hes : e.small) (hb : b < w.heap.size) (hc : EntsAt w b off L) (hsrt : Srt L) :
    Calls Tryz.prog 194 #[.slice (some ⟨b, off, none⟩) L.length cap, .agg #[.string e.path, .bool e.dir, .int .i64 e.id, .int .i64 e.size, .int .i64 e.mode], .func (.func 195) #[] #[]] w fun r w' => ∃ (i : Nat) (f : Bool), r = .returned (.tuple #[.int .i64 i, .bool f]) ∧ i ≤ L.length ∧ (∀ (j : Nat) (hj : j < L.length), j < i → key L[j].pl < key e.pl) ∧ (∀ (j : Nat) (hj : j < L.length), i ≤ j → ¬ key L[j].pl < key e.pl) ∧ Below w.heap.size w w' := by
  have st := Eb.start w e
  have ST := hidD st
  have HC := hidD hc
  have HSm := hidD hs
  have HSr := hidD hsrt
  clear hc hs hsrt st
  have hes' : e.path.size ≤ 1500000 := hes
  go_enter Tryz.func194, Tryz.ntmps194
  go_wp2
  go_loopg [9, 10] L.length (fun kx s9 s10 wr => ∃ lo hi : Nat, s9 = .int .i64 lo ∧ s10 = .int .i64 hi ∧ lo ≤ hi ∧ hi ≤ L.length ∧ hi - lo ≤ kx ∧ Hid (Eb w e wr) ∧
    Hid ((∀ (j : Nat) (hj : j < L.length), j < lo → key L[j].pl < key e.pl) ∧ (∀ (j : Nat) (hj : j < L.length), hi ≤ j → ¬ key L[j].pl < key e.pl)))
  case atStart => exact ⟨0, L.length, rfl, rfl, Nat.zero_le _, Nat.le_refl _, by omega, ST, (⟨fun j hj h => absurd h (Nat.not_lt_zero _), fun j hj h => by omega⟩ : (∀ (j : Nat) (hj : j < L.length), j < 0 → key L[j].pl < key e.pl) ∧ (∀ (j : Nat) (hj : j < L.length), L.length ≤ j → ¬ key L[j].pl < key e.pl))⟩
  case round =>
    obtain ⟨lo, hi, rfl, rfl, hlh, hin, hg, S1, I⟩ := hrel
    have hlt0 := S1.out.lt
    by_cases hlt : lo < hi
    · have hmid : (lo + hi) / 2 < L.length := by omega
      have hcw := (HC.out.below S1.out.bel hb) ((lo + hi) / 2) hmid
      have hk := cmpL_key L[(lo + hi) / 2].pl e.pl
      have hsm : L[(lo + hi) / 2].path.size ≤ 1500000 := HSm.out _ (List.getElem_mem hmid)
      have HO := hidD (rfl : L[(lo + hi) / 2] = L[(lo + hi) / 2])
      generalize hoo : L[(lo + hi) / 2] = o at hcw hk hsm
      have HOO := hidD hoo
      clear hoo HO
      have c0 := hcw 0 _ rfl
      have c1 := hcw 1 _ rfl
      have c2 := hcw 2 _ rfl
      have c3 := hcw 3 _ rfl
      have c4 := hcw 4 _ rfl
      simp only [Nat.add_zero] at c0
      clear hcw
      have k0 := S1.out.cell 0
      have k1 := S1.out.cell 1
      have k2 := S1.out.cell 2
      have k3 := S1.out.cell 3
      have k4 := S1.out.cell 4
      simp [EntD.cells] at k0 k1 k2 k3 k4
      have HK := hidD hk
      clear hk
      have em : ((lo : Int) + (hi : Int)) / 2 = (((lo + hi) / 2 : Nat) : Int) := by omega
      have hm1 : lo ≤ (lo + hi) / 2 := by omega
      have hm2 : (lo + hi) / 2 < hi := by omega
      have hbw : b < wr.heap.size := by omega
      generalize hmd : (lo + hi) / 2 = md at *
      have HM := hidD hmd
      clear hmd
      by_cases hy : cmpL o.path.data.toList e.path.data.toList < 0
      · go_wp2
        go_region_held (fun u => u.cell? ⟨w.heap.size, 0, none⟩ = some (.string e.path) ∧ u.cell? ⟨w.heap.size, 1, none⟩ = some (.bool e.dir) ∧ u.cell? ⟨w.heap.size, 2, none⟩ = some (.int .i64 e.id) ∧ u.cell? ⟨w.heap.size, 3, none⟩ = some (.int .i64 e.size) ∧ u.cell? ⟨w.heap.size, 4, none⟩ = some (.int .i64 e.mode) ∧ u.cell? ⟨b, off + md * 5, none⟩ = some (.string o.path) ∧ u.cell? ⟨b, off + md * 5 + 1, none⟩ = some (.bool o.dir) ∧ u.cell? ⟨b, off + md * 5 + 2, none⟩ = some (.int .i64 o.id) ∧ u.cell? ⟨b, off + md * 5 + 3, none⟩ = some (.int .i64 o.size) ∧ u.cell? ⟨b, off + md * 5 + 4, none⟩ = some (.int .i64 o.mode)) (go_keep) (first | (go_at_call 195; refine (byPath_any o.path e.path o.dir e.dir o.id o.size o.mode e.id e.size e.mode _ hsm hes').mono ?_; rintro r w1 ⟨rfl, hb1⟩; have s2 := (S1.out.drewN 1).below hb1; have d0 := s2.cell 0; have d1 := s2.cell 1; have d2 := s2.cell 2; have d3 := s2.cell 3; have d4 := s2.cell 4; simp [EntD.cells] at d0 d1 d2 d3 d4; have hblt : b < (wr.drewN 1).heap.size := hbw; have g0 := cell_kept hb1 hblt (by exact c0); have g1 := cell_kept hb1 hblt (by exact c1); have g2 := cell_kept hb1 hblt (by exact c2); have g3 := cell_kept hb1 hblt (by exact c3); have g4 := cell_kept hb1 hblt (by exact c4)))
        all_goals go_wp2
        all_goals go_roundg (hi - (md + 1))
        case measure => omega
        case rel =>
          have hk : key L[md].pl < key e.pl := by rw [HOO.out]; exact HK.out.1.1 hy
          have I2 : Hid ((∀ (j : Nat) (hj : j < L.length), j < md + 1 → key L[j].pl < key e.pl) ∧ (∀ (j : Nat) (hj : j < L.length), hi ≤ j → ¬ key L[j].pl < key e.pl)) := ⟨srt_lo HSr.out hmid hk, I.out.2⟩
          exact ⟨md + 1, hi, by first | rfl | go_num, rfl, by omega, hin, Nat.le_refl _, s2, I2⟩
      · go_wp2
        go_region_held (fun u => u.cell? ⟨w.heap.size, 0, none⟩ = some (.string e.path) ∧ u.cell? ⟨w.heap.size, 1, none⟩ = some (.bool e.dir) ∧ u.cell? ⟨w.heap.size, 2, none⟩ = some (.int .i64 e.id) ∧ u.cell? ⟨w.heap.size, 3, none⟩ = some (.int .i64 e.size) ∧ u.cell? ⟨w.heap.size, 4, none⟩ = some (.int .i64 e.mode) ∧ u.cell? ⟨b, off + md * 5, none⟩ = some (.string o.path) ∧ u.cell? ⟨b, off + md * 5 + 1, none⟩ = some (.bool o.dir) ∧ u.cell? ⟨b, off + md * 5 + 2, none⟩ = some (.int .i64 o.id) ∧ u.cell? ⟨b, off + md * 5 + 3, none⟩ = some (.int .i64 o.size) ∧ u.cell? ⟨b, off + md * 5 + 4, none⟩ = some (.int .i64 o.mode)) (go_keep) (first | (go_at_call 195; refine (byPath_any o.path e.path o.dir e.dir o.id o.size o.mode e.id e.size e.mode _ hsm hes').mono ?_; rintro r w1 ⟨rfl, hb1⟩; have s2 := (S1.out.drewN 1).below hb1; have d0 := s2.cell 0; have d1 := s2.cell 1; have d2 := s2.cell 2; have d3 := s2.cell 3; have d4 := s2.cell 4; simp [EntD.cells] at d0 d1 d2 d3 d4; have hblt : b < (wr.drewN 1).heap.size := hbw; have g0 := cell_kept hb1 hblt (by exact c0); have g1 := cell_kept hb1 hblt (by exact c1); have g2 := cell_kept hb1 hblt (by exact c2); have g3 := cell_kept hb1 hblt (by exact c3); have g4 := cell_kept hb1 hblt (by exact c4)))
        all_goals go_wp2
        all_goals go_roundg (md - lo)
        case measure => omega
        case rel =>
          have hk : ¬ key L[md].pl < key e.pl := by rw [HOO.out]; exact fun h => by have h1 := HK.out.1.2 h; have h2 : 0 ≤ cmpL o.pl e.pl := hy; omega
          have I2 : Hid ((∀ (j : Nat) (hj : j < L.length), j < lo → key L[j].pl < key e.pl) ∧ (∀ (j : Nat) (hj : j < L.length), md ≤ j → ¬ key L[j].pl < key e.pl)) := ⟨I.out.1, srt_hi HSr.out hmid hk⟩
          exact ⟨lo, md, rfl, rfl, by omega, by omega, Nat.le_refl _, s2, I2⟩
    · obtain rfl : hi = lo := by omega
      by_cases hn : hi < L.length
      · have hcw := (HC.out.below S1.out.bel hb) hi hn
        have hsm : L[hi].path.size ≤ 1500000 := HSm.out _ (List.getElem_mem hn)
        have hbw : b < wr.heap.size := by omega
        generalize L[hi] = o at hcw hsm
        have c0 := hcw 0 _ rfl
        have c1 := hcw 1 _ rfl
        have c2 := hcw 2 _ rfl
        have c3 := hcw 3 _ rfl
        have c4 := hcw 4 _ rfl
        simp only [Nat.add_zero] at c0
        clear hcw
        have k0 := S1.out.cell 0
        have k1 := S1.out.cell 1
        have k2 := S1.out.cell 2
        have k3 := S1.out.cell 3
        have k4 := S1.out.cell 4
        simp [EntD.cells] at k0 k1 k2 k3 k4
        generalize hmd : hi = md at *
        have hd : decide ((md : Int) < (L.length : Int)) = true := by simp; omega
        go_wp2
        go_region_held (fun u => u.cell? ⟨w.heap.size, 0, none⟩ = some (.string e.path) ∧ u.cell? ⟨w.heap.size, 1, none⟩ = some (.bool e.dir) ∧ u.cell? ⟨w.heap.size, 2, none⟩ = some (.int .i64 e.id) ∧ u.cell? ⟨w.heap.size, 3, none⟩ = some (.int .i64 e.size) ∧ u.cell? ⟨w.heap.size, 4, none⟩ = some (.int .i64 e.mode) ∧ u.cell? ⟨b, off + md * 5, none⟩ = some (.string o.path) ∧ u.cell? ⟨b, off + md * 5 + 1, none⟩ = some (.bool o.dir) ∧ u.cell? ⟨b, off + md * 5 + 2, none⟩ = some (.int .i64 o.id) ∧ u.cell? ⟨b, off + md * 5 + 3, none⟩ = some (.int .i64 o.size) ∧ u.cell? ⟨b, off + md * 5 + 4, none⟩ = some (.int .i64 o.mode)) (go_keep) (first | (go_at_call 195; refine (byPath_any o.path e.path o.dir e.dir o.id o.size o.mode e.id e.size e.mode _ hsm hes').mono ?_; rintro r w1 ⟨rfl, hb1⟩; have s2 := (S1.out.drewN 1).below hb1; have d0 := s2.cell 0; have d1 := s2.cell 1; have d2 := s2.cell 2; have d3 := s2.cell 3; have d4 := s2.cell 4; simp [EntD.cells] at d0 d1 d2 d3 d4; have hblt : b < (wr.drewN 1).heap.size := hbw; have g0 := cell_kept hb1 hblt (by exact c0); have g1 := cell_kept hb1 hblt (by exact c1); have g2 := cell_kept hb1 hblt (by exact c2); have g3 := cell_kept hb1 hblt (by exact c3); have g4 := cell_kept hb1 hblt (by exact c4)))
        all_goals go_wp2
        all_goals go_ret2
        all_goals exact ⟨md, _, rfl, hin, I.out.1, I.out.2, s2.bel⟩
      · have hd : decide ((hi : Int) < (L.length : Int)) = false := by simp; omega
        go_wp2
        go_quiet (fail)
        all_goals go_wp2
        all_goals go_ret2
        all_goals exact ⟨hi, _, rfl, hin, I.out.1, I.out.2, (S1.out.drewN _).bel⟩
end Go.Proofs.YtpjjagalekolaaaGreatDoor

/- A volume in memory: the entries with one more, and with one less. -/
namespace Go.Proofs.YtpjjagalekolaaaGreatDoor
open Go.RowKit
set_option linter.unusedVariables false
set_option linter.unusedSimpArgs false

theorem own_mono {w : World} {B B' : Nat} {v : Value} {n : Nat} {xs : List Value} (h : w.ownsRow B 56 5 v n xs) (hb : B' ≤ B) : w.ownsRow B' 56 5 v n xs :=
  ⟨h.1, h.2.imp id fun ⟨g, cap, cur, h1, h2, h3⟩ => ⟨g, cap, cur, h1, Nat.le_trans hb h2, h3⟩⟩
theorem own_shape {w : World} {B : Nat} {v : Value} {n : Nat} {xs : List Value} (h : w.ownsRow B 56 5 v n xs) : ∃ a m c, v = .slice a m c := by
  rcases h.2 with ⟨rfl, rfl⟩ | ⟨g, cap, cur, rfl, _⟩
  · exact ⟨_, _, _, rfl⟩
  · exact ⟨_, _, _, rfl⟩
theorem EntsAt.drop {w : World} {b off : Nat} {l : List EntD} (h : EntsAt w b off l) (n : Nat) : EntsAt w b (off + n * 5) (l.drop n) := by
  intro k hk j v hv
  have hk' : n + k < l.length := by simp at hk; omega
  rw [List.getElem_drop] at hv
  have := h (n + k) hk' j v hv
  rwa [show off + n * 5 + k * 5 + j = off + (n + k) * 5 + j by omega]
theorem RowAt.take {w : World} {b off cap : Nat} {l : List EntD} (hb : b < w.heap.size) (hc : l.length ≤ cap) (hm : cap ≤ maxLen) (h : EntsAt w b off l) (i : Nat) (hi : i ≤ l.length) : RowAt w (.slice (some ⟨b, off, none⟩) i cap) (l.take i) := by
  have := RowAt.row (w := w) b off cap (l.take i) hb (by simp; omega) hm (h.take i)
  rwa [List.length_take, Nat.min_eq_left hi] at this
theorem RowAt.drop {w : World} {b off cap : Nat} {l : List EntD} (hb : b < w.heap.size) (hc : l.length ≤ cap) (hm : cap ≤ maxLen) (h : EntsAt w b off l) (i : Nat) (hi : i ≤ l.length) : RowAt w (.slice (some ⟨b, off + i * 5, none⟩) (l.length - i) (cap - i)) (l.drop i) := by
  have := RowAt.row (w := w) b (off + i * 5) (cap - i) (l.drop i) hb (by simp; omega) (by omega) (h.drop i)
  rwa [List.length_drop] at this

theorem cells_new (w : World) (e : EntD) : EntsAt (w.alloc (.cells e.cells.toArray 56)) w.heap.size 0 [e] := by
  intro k hk j v hv
  obtain rfl : k = 0 := by simp at hk; omega
  simp only [List.getElem_cons_zero] at hv
  rw [show 0 + 0 * 5 + j = j by omega, World.cell?_alloc_at _ _ _ _ rfl, ← hv]
  simp

theorem RowAt.dropIf {w : World} {b off cap : Nat} {l : List EntD} (hb : b < w.heap.size) (hc : l.length ≤ cap) (hm : cap ≤ maxLen) (h : EntsAt w b off l) (i : Nat) (hi : i ≤ l.length) : RowAt w (.slice (if cap = i then some ⟨b, off, none⟩ else some ⟨b, off + i * 5, none⟩) (l.length - i) (cap - i)) (l.drop i) := by
  by_cases he : cap = i
  · rw [if_pos he]
    have hl : l.drop i = [] := List.drop_eq_nil_of_le (by omega)
    rw [hl, show l.length - i = 0 by omega]
    exact RowAt.row (w := w) b off (cap - i) [] hb (by simp) (by omega) (fun k hk => by simp at hk)
  · rw [if_neg he]
    exact RowAt.drop hb hc hm h i hi

theorem concat3 (u : World) (e : EntD) (v1 v3 : Value) (l1 l3 : List EntD) (h1 : RowAt u v1 l1) (h3 : RowAt u v3 l3) (hl : l1.length + l3.length ≤ 900) :
    Calls Tryz.prog 196 #[.slice (some ⟨u.heap.size + 1, 0, none⟩) 3 3] ((u.alloc (.cells e.cells.toArray 56)).alloc (.cells #[v1, .slice (some ⟨u.heap.size, 0, none⟩) 1 1, v3] 22)).drew fun r w' => ∃ v, r = .returned v ∧ w'.ownsRow u.heap.size 56 5 v (l1 ++ e :: l3).length (flatE (l1 ++ e :: l3)) ∧ Below u.heap.size u w' := by
  have hs2 : Below u.heap.size u ((u.alloc (.cells e.cells.toArray 56)).alloc (.cells #[v1, .slice (some ⟨u.heap.size, 0, none⟩) 1 1, v3] 22)).drew := (((Below.refl _ _).alloc (Nat.le_refl _) _).alloc (by simp) _).drew
  have hz : ((u.alloc (.cells e.cells.toArray 56)).alloc (.cells #[v1, .slice (some ⟨u.heap.size, 0, none⟩) 1 1, v3] 22)).drew.heap.size = u.heap.size + 2 := by
    show ((u.alloc (.cells e.cells.toArray 56)).alloc (.cells #[v1, .slice (some ⟨u.heap.size, 0, none⟩) 1 1, v3] 22)).heap.size = _
    simp
  have hrow : RowAt ((u.alloc (.cells e.cells.toArray 56)).alloc (.cells #[v1, .slice (some ⟨u.heap.size, 0, none⟩) 1 1, v3] 22)).drew (.slice (some ⟨u.heap.size, 0, none⟩) 1 1) [e] := by
    refine RowAt.row u.heap.size 0 1 [e] (by rw [hz]; omega) (Nat.le_refl _) (by unfold maxLen; omega) ?_
    exact (cells_new u e).below ((Below.refl (u.heap.size + 1) _).alloc (by simp) _).drew (by omega)
  have hcell : ∀ (k : Nat) (hk : k < [v1, Value.slice (some ⟨u.heap.size, 0, none⟩) 1 1, v3].length), ((u.alloc (.cells e.cells.toArray 56)).alloc (.cells #[v1, .slice (some ⟨u.heap.size, 0, none⟩) 1 1, v3] 22)).drew.cell? ⟨u.heap.size + 1, k, none⟩ = some [v1, Value.slice (some ⟨u.heap.size, 0, none⟩) 1 1, v3][k] := by
    intro k hk
    show ((u.alloc (.cells e.cells.toArray 56)).alloc (.cells #[v1, .slice (some ⟨u.heap.size, 0, none⟩) 1 1, v3] 22)).cell? ⟨u.heap.size + 1, k, none⟩ = _
    rw [show u.heap.size + 1 = (u.alloc (.cells e.cells.toArray 56)).heap.size by simp, World.cell?_alloc_at _ _ _ _ rfl]
    match k, hk with
    | 0, _ => rfl
    | 1, _ => rfl
    | 2, _ => rfl
  generalize ((u.alloc (.cells e.cells.toArray 56)).alloc (.cells #[v1, .slice (some ⟨u.heap.size, 0, none⟩) 1 1, v3] 22)).drew = x at *
  have := concat_any (u.heap.size + 1) 3 [v1, .slice (some ⟨u.heap.size, 0, none⟩) 1 1, v3] [l1, [e], l3] x rfl rfl (by omega) (by simp [sumL]; omega) (by rw [hz]; omega) hcell (fun k hk hk' => by
      match k, hk, hk' with
      | 0, _, _ => exact h1.below hs2 (Nat.le_refl _)
      | 1, _, _ => exact hrow
      | 2, _, _ => exact h3.below hs2 (Nat.le_refl _))
  refine this.mono ?_
  rintro r w' ⟨v, rfl, hown, hb⟩
  rw [hz] at hown hb
  refine ⟨v, rfl, ?_, hs2.trans (hb.mono (by omega))⟩
  have h' := own_mono hown (show u.heap.size ≤ u.heap.size + 2 by omega)
  simpa using h'

set_option maxHeartbeats 1000000 in
theorem search_nil (e : EntD) (w : World) :
    Calls Tryz.prog 194 #[.slice none 0 0, .agg #[.string e.path, .bool e.dir, .int .i64 e.id, .int .i64 e.size, .int .i64 e.mode], .func (.func 195) #[] #[]] w fun r w' => r = .returned (.tuple #[.int .i64 (0 : Nat), .bool false]) ∧ Below w.heap.size w w' := by
  go_enter Tryz.func194, Tryz.ntmps194
  go_wp2
  refine wp_loop_rounds 1 ?_
  rw [rounds_succ]
  go_wp2
  go_quiet (fail)
  go_wp2
  go_ret2
  exact ⟨rfl, ((Eb.start w e).drewN _).bel⟩

set_option maxHeartbeats 2000000 in
set_option maxRecDepth 100000 in
theorem vwith_row {w : World} {vb b off cap : Nat} {L : List EntD} {fold : Bool} {space : Int} (hv : VolAt w vb (.slice (some ⟨b, off, none⟩) L.length cap) fold space) (hlb : b < w.heap.size) (hcp : L.length ≤ cap) (hm : cap ≤ maxLen) (hc : EntsAt w b off L) (hl : L.length ≤ 120) (hs : ∀ o ∈ L, o.small) (hsrt : Srt L) (e : EntD) (hes : e.small) (hne : ∀ x ∈ L, x.pl ≠ e.pl) :
    Calls Tryz.prog 163 #[.pointer (some ⟨vb, 0, none⟩), .agg #[.string e.path, .bool e.dir, .int .i64 e.id, .int .i64 e.size, .int .i64 e.mode]] w fun r w' => ∃ v', r = .returned v' ∧ w'.ownsRow w.heap.size 56 5 v' (insL e L).length (flatE (insL e L)) ∧ Below w.heap.size w w' := by
  have st := Eb.start w e
  have HS : Hid (∀ u : World, Eb w e u → Calls Tryz.prog 194 #[.slice (some ⟨b, off, none⟩) L.length cap, .agg #[.string e.path, .bool e.dir, .int .i64 e.id, .int .i64 e.size, .int .i64 e.mode], .func (.func 195) #[] #[]] u fun r w' => ∃ (i : Nat) (f : Bool), r = .returned (.tuple #[.int .i64 i, .bool f]) ∧ i ≤ L.length ∧ insL e L = L.take i ++ e :: L.drop i ∧ Below u.heap.size u w') := fun u su => by
    refine (search_any b off cap L e u (by omega) hs hes (by have := su.bel.size; omega) (hc.below su.bel hlb) hsrt).mono ?_
    rintro r w' ⟨i, f, rfl, hi, h1, h2, hb⟩
    refine ⟨i, f, rfl, hi, insL_at e L i hi h1 (fun j hj hij => ?_) hsrt, hb⟩
    have hk := cmpL_key L[j].pl e.pl
    have h3 := h2 j hj hij
    have h4 := hne _ (List.getElem_mem hj)
    exact hk.2.1.1 (by
      have a1 : ¬ cmpL L[j].pl e.pl < 0 := fun h => h3 (hk.1.1 h)
      have a2 : ¬ cmpL L[j].pl e.pl = 0 := fun h => h4 (hk.2.2.1 h)
      omega)
  have HV := hidD hv
  have HC := hidD hc
  have hvlt := hv.lt
  have ST := hidD st
  have c0 : (w.alloc (.cells e.cells.toArray 56)).cell? ⟨vb, 0, none⟩ = some (.slice (some ⟨b, off, none⟩) L.length cap) := (hv.below st.bel hv.lt).c0
  clear hv hc hs hsrt hne
  have k0 := st.cell 0
  have k1 := st.cell 1
  have k2 := st.cell 2
  have k3 := st.cell 3
  have k4 := st.cell 4
  simp [EntD.cells] at k0 k1 k2 k3 k4 c0
  clear st
  go_enter Tryz.func163, Tryz.ntmps163
  go_wp2
  go_region_held (fun u => u.cell? ⟨vb, 0, none⟩ = some (.slice (some ⟨b, off, none⟩) L.length cap) ∧ u.cell? ⟨w.heap.size, 0, none⟩ = some (.string e.path) ∧ u.cell? ⟨w.heap.size, 1, none⟩ = some (.bool e.dir) ∧ u.cell? ⟨w.heap.size, 2, none⟩ = some (.int .i64 e.id) ∧ u.cell? ⟨w.heap.size, 3, none⟩ = some (.int .i64 e.size) ∧ u.cell? ⟨w.heap.size, 4, none⟩ = some (.int .i64 e.mode)) (go_keep) (first | (go_at_call 194; refine (HS.out _ (ST.out.drewN 1)).mono ?_; rintro r w1 ⟨i, f, rfl, hi, hins, hb1⟩; have s2 := (ST.out.drewN 1).below hb1; have d0 := s2.cell 0; have d1 := s2.cell 1; have d2 := s2.cell 2; have d3 := s2.cell 3; have d4 := s2.cell 4; have dv := (HV.out.below s2.bel hvlt).c0; simp [EntD.cells] at d0 d1 d2 d3 d4))
  all_goals go_wp2
  clear k0 k1 k2 k3 k4 c0
  have H3 := hidD (concat3 w1 e _ _ _ _ (RowAt.take (by have := s2.bel.size; omega) hcp hm (HC.out.below s2.bel hlb) i hi) (RowAt.dropIf (by have := s2.bel.size; omega) hcp hm (HC.out.below s2.bel hlb) i hi) (by simp; omega))
  have hic : i ≤ cap := by omega
  have hicz : (i : Int) ≤ (cap : Int) := by omega
  have hicl : (i : Int) ≤ (L.length : Int) := by omega
  by_cases he : cap = i
  · rw [if_pos he] at H3
    subst he
    simp only [Nat.sub_self, show L.length - cap = 0 by omega] at H3
    go_region_held (fun u => u.cell? ⟨vb, 0, none⟩ = some (.slice (some ⟨b, off, none⟩) L.length cap) ∧ u.cell? ⟨w.heap.size, 0, none⟩ = some (.string e.path) ∧ u.cell? ⟨w.heap.size, 1, none⟩ = some (.bool e.dir) ∧ u.cell? ⟨w.heap.size, 2, none⟩ = some (.int .i64 e.id) ∧ u.cell? ⟨w.heap.size, 3, none⟩ = some (.int .i64 e.size) ∧ u.cell? ⟨w.heap.size, 4, none⟩ = some (.int .i64 e.mode)) (go_keep) (first | (go_at_call 196; refine (H3.out).mono ?_; rintro r w3 ⟨v3, rfl, hown3, hb3⟩; obtain ⟨a3, m3, c3, rfl⟩ := own_shape hown3; have s3 := s2.below hb3; have f0 := s3.cell 0; have f1 := s3.cell 1; have f2 := s3.cell 2; have f3 := s3.cell 3; have f4 := s3.cell 4; have fv := (HV.out.below s3.bel hvlt).c0; simp [EntD.cells] at f0 f1 f2 f3 f4))
    all_goals go_wp2
    all_goals go_ret
    all_goals exact ⟨_, rfl, by rw [hins]; exact own_mono hown3 (Nat.le_of_lt s2.lt), s3.bel⟩
  · rw [if_neg he] at H3
    go_region_held (fun u => u.cell? ⟨vb, 0, none⟩ = some (.slice (some ⟨b, off, none⟩) L.length cap) ∧ u.cell? ⟨w.heap.size, 0, none⟩ = some (.string e.path) ∧ u.cell? ⟨w.heap.size, 1, none⟩ = some (.bool e.dir) ∧ u.cell? ⟨w.heap.size, 2, none⟩ = some (.int .i64 e.id) ∧ u.cell? ⟨w.heap.size, 3, none⟩ = some (.int .i64 e.size) ∧ u.cell? ⟨w.heap.size, 4, none⟩ = some (.int .i64 e.mode)) (go_keep) (first | (go_at_call 196; refine (H3.out).mono ?_; rintro r w3 ⟨v3, rfl, hown3, hb3⟩; obtain ⟨a3, m3, c3, rfl⟩ := own_shape hown3; have s3 := s2.below hb3; have f0 := s3.cell 0; have f1 := s3.cell 1; have f2 := s3.cell 2; have f3 := s3.cell 3; have f4 := s3.cell 4; have fv := (HV.out.below s3.bel hvlt).c0; simp [EntD.cells] at f0 f1 f2 f3 f4))
    all_goals go_wp2
    all_goals go_ret
    all_goals exact ⟨_, rfl, by rw [hins]; exact own_mono hown3 (Nat.le_of_lt s2.lt), s3.bel⟩

set_option maxHeartbeats 2000000 in
set_option maxRecDepth 100000 in
theorem vwith_nil {w : World} {vb : Nat} {fold : Bool} {space : Int} (hv : VolAt w vb (.slice none 0 0) fold space) (e : EntD) :
    Calls Tryz.prog 163 #[.pointer (some ⟨vb, 0, none⟩), .agg #[.string e.path, .bool e.dir, .int .i64 e.id, .int .i64 e.size, .int .i64 e.mode]] w fun r w' => ∃ v', r = .returned v' ∧ w'.ownsRow w.heap.size 56 5 v' (insL e []).length (flatE (insL e [])) ∧ Below w.heap.size w w' := by
  have st := Eb.start w e
  have HV := hidD hv
  have hvlt := hv.lt
  have ST := hidD st
  have c0 : (w.alloc (.cells e.cells.toArray 56)).cell? ⟨vb, 0, none⟩ = some (.slice none 0 0) := (hv.below st.bel hv.lt).c0
  clear hv
  have k0 := st.cell 0
  have k1 := st.cell 1
  have k2 := st.cell 2
  have k3 := st.cell 3
  have k4 := st.cell 4
  simp [EntD.cells] at k0 k1 k2 k3 k4 c0
  clear st
  go_enter Tryz.func163, Tryz.ntmps163
  go_wp2
  go_region_held (fun u => u.cell? ⟨vb, 0, none⟩ = some (.slice none 0 0) ∧ u.cell? ⟨w.heap.size, 0, none⟩ = some (.string e.path) ∧ u.cell? ⟨w.heap.size, 1, none⟩ = some (.bool e.dir) ∧ u.cell? ⟨w.heap.size, 2, none⟩ = some (.int .i64 e.id) ∧ u.cell? ⟨w.heap.size, 3, none⟩ = some (.int .i64 e.size) ∧ u.cell? ⟨w.heap.size, 4, none⟩ = some (.int .i64 e.mode)) (go_keep) (first | (go_at_call 194; refine (search_nil e _).mono ?_; rintro r w1 ⟨rfl, hb1⟩; have s2 := (ST.out.drewN 1).below hb1; have d0 := s2.cell 0; have d1 := s2.cell 1; have d2 := s2.cell 2; have d3 := s2.cell 3; have d4 := s2.cell 4; have dv := (HV.out.below s2.bel hvlt).c0; simp [EntD.cells] at d0 d1 d2 d3 d4))
  all_goals go_wp2
  clear k0 k1 k2 k3 k4 c0
  have H3 := hidD (concat3 w1 e _ _ _ _ RowAt.nil RowAt.nil (by simp))
  go_region_held (fun u => u.cell? ⟨vb, 0, none⟩ = some (.slice none 0 0) ∧ u.cell? ⟨w.heap.size, 0, none⟩ = some (.string e.path) ∧ u.cell? ⟨w.heap.size, 1, none⟩ = some (.bool e.dir) ∧ u.cell? ⟨w.heap.size, 2, none⟩ = some (.int .i64 e.id) ∧ u.cell? ⟨w.heap.size, 3, none⟩ = some (.int .i64 e.size) ∧ u.cell? ⟨w.heap.size, 4, none⟩ = some (.int .i64 e.mode)) (go_keep) (first | (go_at_call 196; refine (H3.out).mono ?_; rintro r w3 ⟨v3, rfl, hown3, hb3⟩; obtain ⟨a3, m3, c3, rfl⟩ := own_shape hown3; have s3 := s2.below hb3; have f0 := s3.cell 0; have f1 := s3.cell 1; have f2 := s3.cell 2; have f3 := s3.cell 3; have f4 := s3.cell 4; have fv := (HV.out.below s3.bel hvlt).c0; simp [EntD.cells] at f0 f1 f2 f3 f4))
  all_goals go_wp2
  all_goals go_ret
  all_goals exact ⟨_, rfl, own_mono hown3 (Nat.le_of_lt s2.lt), s3.bel⟩

theorem vwith {w : World} {vb : Nat} {v : Value} {L : List EntD} {fold : Bool} {space : Int} (hv : VolAt w vb v fold space) (hr : RowAt w v L) (hl : L.length ≤ 120) (hs : ∀ o ∈ L, o.small) (hsrt : Srt L) (e : EntD) (hes : e.small) (hne : ∀ x ∈ L, x.pl ≠ e.pl) :
    Calls Tryz.prog 163 #[.pointer (some ⟨vb, 0, none⟩), .agg #[.string e.path, .bool e.dir, .int .i64 e.id, .int .i64 e.size, .int .i64 e.mode]] w fun r w' => ∃ v', r = .returned v' ∧ w'.ownsRow w.heap.size 56 5 v' (insL e L).length (flatE (insL e L)) ∧ Below w.heap.size w w' := by
  cases hr with
  | nil => exact vwith_nil hv e
  | row b off cap l hlb hc hm h => exact vwith_row hv hlb hc hm h hl hs hsrt e hes hne
end Go.Proofs.YtpjjagalekolaaaGreatDoor

/- A volume in memory: the entries with one less; a file more, where there is space. -/
namespace Go.Proofs.YtpjjagalekolaaaGreatDoor
open Go.RowKit
set_option linter.unusedVariables false
set_option linter.unusedSimpArgs false

theorem concat2 (u : World) (v1 v2 : Value) (l1 l2 : List EntD) (h1 : RowAt u v1 l1) (h2 : RowAt u v2 l2) (hl : l1.length + l2.length ≤ 900) :
    Calls Tryz.prog 196 #[.slice (some ⟨u.heap.size, 0, none⟩) 2 2] (u.alloc (.cells #[v1, v2] 22)).drew fun r w' => ∃ v, r = .returned v ∧ w'.ownsRow u.heap.size 56 5 v (l1 ++ l2).length (flatE (l1 ++ l2)) ∧ Below u.heap.size u w' := by
  have hs2 : Below u.heap.size u (u.alloc (.cells #[v1, v2] 22)).drew := ((Below.refl _ _).alloc (Nat.le_refl _) _).drew
  have hz : (u.alloc (.cells #[v1, v2] 22)).drew.heap.size = u.heap.size + 1 := by
    show (u.alloc (.cells #[v1, v2] 22)).heap.size = _
    simp
  have hcell : ∀ (k : Nat) (hk : k < [v1, v2].length), (u.alloc (.cells #[v1, v2] 22)).drew.cell? ⟨u.heap.size, k, none⟩ = some [v1, v2][k] := by
    intro k hk
    show (u.alloc (.cells #[v1, v2] 22)).cell? ⟨u.heap.size, k, none⟩ = _
    rw [World.cell?_alloc_at _ _ _ _ rfl]
    match k, hk with
    | 0, _ => rfl
    | 1, _ => rfl
  generalize (u.alloc (.cells #[v1, v2] 22)).drew = x at *
  have := concat_any u.heap.size 2 [v1, v2] [l1, l2] x rfl rfl (by omega) (by simp [sumL]; omega) (by rw [hz]; omega) hcell (fun k hk hk' => by
      match k, hk, hk' with
      | 0, _, _ => exact h1.below hs2 (Nat.le_refl _)
      | 1, _, _ => exact h2.below hs2 (Nat.le_refl _))
  refine this.mono ?_
  rintro r w' ⟨v, rfl, hown, hb⟩
  rw [hz] at hown hb
  refine ⟨v, rfl, ?_, hs2.trans (hb.mono (by omega))⟩
  have h' := own_mono hown (show u.heap.size ≤ u.heap.size + 1 by omega)
  simpa using h'

set_option maxHeartbeats 2000000 in
set_option maxRecDepth 100000 in
theorem vwithout {w : World} {vb : Nat} {v : Value} {L : List EntD} {fold : Bool} {space : Int} (hv : VolAt w vb v fold space) (hr : RowAt w v L) (hl : L.length ≤ 120) (i : Nat) (hi : i < L.length) :
    Calls Tryz.prog 166 #[.pointer (some ⟨vb, 0, none⟩), .int .i64 i] w fun r w' => ∃ v', r = .returned v' ∧ w'.ownsRow w.heap.size 56 5 v' (L.eraseIdx i).length (flatE (L.eraseIdx i)) ∧ Below w.heap.size w w' := by
  cases hr with
  | nil => simp at hi
  | row b off cap l hlb hc hm h =>
    rw [eraseIdx_take]
    have HV := hidD hv
    have hvlt := hv.lt
    have c0 := hv.c0
    obtain ⟨i1, hi1⟩ : ∃ i1, i1 = i + 1 := ⟨_, rfl⟩
    rw [← hi1]
    have H3 := hidD (concat2 w _ _ _ _ (RowAt.take hlb hc hm h i (by omega)) (RowAt.dropIf hlb hc hm h i1 (by omega)) (by simp; omega))
    have em : (i : Int) + 1 = (i1 : Int) := by omega
    have hic1 : i1 ≤ cap := by omega
    have hil1 : i1 ≤ L.length := by omega
    have hicz1 : (i1 : Int) ≤ (cap : Int) := by omega
    have hicl1 : (i1 : Int) ≤ (L.length : Int) := by omega
    have hw : IntKind.i64.wrap (i1 : Int) = (i1 : Int) := by rw [IntKind.wrap_i64]; omega
    have HI1 := hidD hi1
    clear hi1
    have hic : i ≤ cap := by omega
    have hicz : (i : Int) ≤ (cap : Int) := by omega
    clear hv
    by_cases he : cap = i1
    · rw [if_pos he] at H3
      subst he
      simp only [Nat.sub_self, show L.length - cap = 0 by omega] at H3
      go_enter Tryz.func166, Tryz.ntmps166
      go_wp2
      go_region_held (fun u => u.cell? ⟨vb, 0, none⟩ = some (.slice (some ⟨b, off, none⟩) L.length cap)) (go_keep) (first | (go_at_call 196; refine (H3.out).mono ?_; rintro r w3 ⟨v3, rfl, hown3, hb3⟩; obtain ⟨a3, m3, c3, rfl⟩ := own_shape hown3; have fv := (HV.out.below hb3 hvlt).c0))
      all_goals go_wp2
      all_goals go_ret
      all_goals exact ⟨_, rfl, hown3, hb3⟩
    · rw [if_neg he] at H3
      go_enter Tryz.func166, Tryz.ntmps166
      go_wp2
      go_region_held (fun u => u.cell? ⟨vb, 0, none⟩ = some (.slice (some ⟨b, off, none⟩) L.length cap)) (go_keep) (first | (go_at_call 196; refine (H3.out).mono ?_; rintro r w3 ⟨v3, rfl, hown3, hb3⟩; obtain ⟨a3, m3, c3, rfl⟩ := own_shape hown3; have fv := (HV.out.below hb3 hvlt).c0))
      all_goals go_wp2
      all_goals go_ret
      all_goals exact ⟨_, rfl, hown3, hb3⟩

def SizesOk (L : List EntD) : Prop := ∀ k, k ≤ L.length → 0 ≤ usedL (L.take k) ∧ usedL (L.take k) ≤ 1000000000
theorem vsizes {w : World} {v : Value} {L : List EntD} (hr : RowAt w v L) (hl : L.length ≤ 120) (hz : SizesOk L) : ∀ u : World, Below w.heap.size w u → Calls Tryz.prog 69 #[v] u fun e u' => e = .returned (.int .i64 (usedL L)) ∧ Below u.heap.size u u' := by
  intro u hu
  cases hr with
  | nil => exact (sizes_nil u).mono (by rintro e w' ⟨rfl, rfl⟩; exact ⟨rfl, Below.refl _ _⟩)
  | row b off cap l hlt hc hm h => exact sizes_row b off cap L u (by omega) hz (by have := hu.size; omega) (h.below hu hlt)

set_option maxHeartbeats 2000000 in
theorem vfilled {w : World} {vb : Nat} {v : Value} {L : List EntD} {fold : Bool} {space : Int} (hv : VolAt w vb v fold space) (hr : RowAt w v L) (hl : L.length ≤ 120) (hs : ∀ o ∈ L, o.small) (hsrt : Srt L) (hz : SizesOk L) (hsp : 0 ≤ space) (hsp2 : space ≤ 9223372036854775807) (e : EntD) (hes : e.small) (hne : ∀ x ∈ L, x.pl ≠ e.pl) :
    Calls Tryz.prog 168 #[.pointer (some ⟨vb, 0, none⟩), .agg #[.string e.path, .bool e.dir, .int .i64 e.id, .int .i64 e.size, .int .i64 e.mode]] w fun r w' => Below w.heap.size w w' ∧ (if space - usedL L < e.size then r = .returned (.tuple #[.slice none 0 0, .int .i64 11]) else ∃ v', r = .returned (.tuple #[v', .int .i64 0]) ∧ w'.ownsRow w.heap.size 56 5 v' (insL e L).length (flatE (insL e L))) := by
  have st := Eb.start w e
  have ST := hidD st
  have HZ := hidD (vsizes hr hl hz)
  have HW : Hid (∀ u : World, Below w.heap.size w u → Calls Tryz.prog 163 #[.pointer (some ⟨vb, 0, none⟩), .agg #[.string e.path, .bool e.dir, .int .i64 e.id, .int .i64 e.size, .int .i64 e.mode]] u fun r w' => ∃ v', r = .returned v' ∧ w'.ownsRow u.heap.size 56 5 v' (insL e L).length (flatE (insL e L)) ∧ Below u.heap.size u w') := fun u hu => vwith (hv.below hu hv.lt) (hr.below hu (Nat.le_refl _)) hl hs hsrt e hes hne
  have HV := hidD hv
  have hvlt := hv.lt
  have hu0 : 0 ≤ usedL L ∧ usedL L ≤ 1000000000 := by have := hz L.length (Nat.le_refl _); rwa [List.take_length] at this
  obtain ⟨hu1, hu2⟩ := hu0
  have c0 : (w.alloc (.cells e.cells.toArray 56)).cell? ⟨vb, 0, none⟩ = some v := (hv.below st.bel hv.lt).c0
  have c2 : (w.alloc (.cells e.cells.toArray 56)).cell? ⟨vb, 2, none⟩ = some (.int .i64 space) := (hv.below st.bel hv.lt).c2
  obtain ⟨a, c, rfl⟩ := hr.val
  clear hv hr hs hsrt hz hne
  generalize L.length = n at *
  generalize usedL L = us at *
  generalize insL e L = R at *
  have k3 := st.cell 3
  simp [EntD.cells] at k3 c0 c2
  clear st
  have hw : IntKind.i64.wrap (space - us) = space - us := by rw [IntKind.wrap_i64]; omega
  by_cases hf : space - us < e.size
  · simp only [hf, ↓reduceIte]
    go_enter Tryz.func168, Tryz.ntmps168
    go_wp2
    go_region_held (fun u => u.cell? ⟨vb, 0, none⟩ = some (.slice a n c) ∧ u.cell? ⟨vb, 2, none⟩ = some (.int .i64 space) ∧ u.cell? ⟨w.heap.size, 3, none⟩ = some (.int .i64 e.size)) (go_keep) (first | (go_at_call 69; refine (HZ.out _ (ST.out.drewN 1).bel).mono ?_; rintro r w1 ⟨rfl, hb1⟩; have s2 := (ST.out.drewN 1).below hb1; have d3 := s2.cell 3; simp [EntD.cells] at d3; have dv := (HV.out.below s2.bel hvlt).c0; have dw := (HV.out.below s2.bel hvlt).c2))
    all_goals go_wp2
    all_goals go_ret2
    all_goals exact ⟨s2.bel, rfl⟩
  · simp only [hf, ↓reduceIte]
    go_enter Tryz.func168, Tryz.ntmps168
    go_wp2
    go_region_held (fun u => u.cell? ⟨vb, 0, none⟩ = some (.slice a n c) ∧ u.cell? ⟨vb, 2, none⟩ = some (.int .i64 space) ∧ u.cell? ⟨w.heap.size, 3, none⟩ = some (.int .i64 e.size)) (go_keep) (first | (go_at_call 69; refine (HZ.out _ (ST.out.drewN 1).bel).mono ?_; rintro r w1 ⟨rfl, hb1⟩; have s2 := (ST.out.drewN 1).below hb1; have d3 := s2.cell 3; simp [EntD.cells] at d3; have dv := (HV.out.below s2.bel hvlt).c0; have dw := (HV.out.below s2.bel hvlt).c2))
    all_goals (have d0 := s2.cell 0; have d1 := s2.cell 1; have d2 := s2.cell 2; have d4 := s2.cell 4; simp [EntD.cells] at d0 d1 d2 d4)
    all_goals go_wp2_with (go_at_call 163; refine (HW.out _ s2.bel).mono ?_; rintro r w3 ⟨v3, rfl, hown3, hb3⟩; obtain ⟨a3, m3, c3, rfl⟩ := own_shape hown3)
    all_goals go_ret2
    all_goals exact ⟨(s2.below hb3).bel, _, rfl, own_mono hown3 s2.bel.size⟩
end Go.Proofs.YtpjjagalekolaaaGreatDoor

