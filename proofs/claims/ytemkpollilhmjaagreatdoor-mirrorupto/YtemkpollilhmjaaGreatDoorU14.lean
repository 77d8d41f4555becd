/- VH, VI, VJ, VK, VL, VQ, VR, VO, VP, VM, VN, VS, VT: in one text. -/
import Derived.Test.YtemkpollilhmjaaGreatDoorU13
import Derived.Test.YtemkpollilhmjaaGreatDoorU08
import Derived.Lib.AppendZerosOnto
import Derived.Laws.OwnMore
/- Rows of entries put together: the library's Grow and Concat at this program. -/
namespace Go.Proofs.YtemkpollilhmjaaGreatDoor
open Go.RowKit
set_option linter.unusedVariables false
set_option linter.unusedSimpArgs false

def zeroE : Value := .agg #[.string ByteArray.empty, .bool false, .int .i64 0, .int .i64 0, .int .i64 0]

set_option maxHeartbeats 2000000 in
set_option maxRecDepth 100000 in
theorem grow_own (n : Nat) (w : World) (hn : n ≤ 1000000) :
    Calls Tryz.prog 153 #[.slice none 0 0, .int .i64 n] w fun e w' => ∃ v, e = .returned v ∧ w'.ownsRow w.heap.size 54 5 v 0 [] ∧ Below w.heap.size w w' := by
  obtain ⟨i0, hi, hz0, hz1, hz2⟩ := info_parts info54
  by_cases h0 : n = 0
  · subst h0
    go_enter Tryz.func153, Tryz.ntmps153
    go_wp2
    go_ret
    exact ⟨_, rfl, World.ownsRow_nil _ _ _ _, Below.refl _ _⟩
  · have hrun : ∀ ty, (Builtin.append_ #[22, 3] ty #[.slice none 0 0, .int .i64 n]).run Tryz.prog w =
        .ok (.slice (some ⟨w.heap.size, 0, none⟩) n (grownCap w n 0 54)) (w.drew.alloc (.cells (#[] ++ Builtin.zeroCells zeroE.cells n ++ Builtin.zeroCells zeroE.cells (grownCap w n 0 54 - n)) 54)) := fun ty => by
      have h := Lib.run_append_grow_zeros (P := Tryz.prog) w 22 3 ty 54 i0 _ .i64 .i64 Tryz.underlying22 Tryz.underlying3 hi hz0 none 0 0 [] (run_firstCells_none w.drew i0.size 0 0 0) n (by omega) (by rw [hz1]; decide) (by omega) (by omega) (by rw [hz2]; omega) (by rw [hz2]; exact growslice_fits (by omega) (by omega))
      simpa [zeroE] using h
    have hG1 := grownCap_ge w n 0 54
    have hG2 := grownCap_le_maxLen w n 0 54 (by unfold maxLen; omega)
    have hown : ∀ cur : Array Value, cur.size = grownCap w n 0 54 * 5 → (w.drew.alloc (.cells cur 54)).ownsRow w.heap.size 54 5 (.slice (some ⟨w.heap.size, 0, none⟩) 0 (grownCap w n 0 54)) 0 [] := fun cur hc => World.ownsRow_made w.drew cur (grownCap w n 0 54) (Nat.le_refl _) hG2 hc
    have HO := hidD (hown (#[] ++ Builtin.zeroCells zeroE.cells n ++ Builtin.zeroCells zeroE.cells (grownCap w n 0 54 - n)) (by
      have h5 : zeroE.cells.size = 5 := rfl
      rw [Array.size_append, Array.size_append, size_zeroCells, size_zeroCells, h5]
      simp; omega))
    clear hown
    generalize (#[] ++ Builtin.zeroCells zeroE.cells n ++ Builtin.zeroCells zeroE.cells (grownCap w n 0 54 - n)) = cur at *
    generalize grownCap w n 0 54 = G at *
    have HR := hidD hrun
    clear hrun
    have hG3 : G ≤ 9223372036854775807 := by unfold maxLen at hG2; omega
    have hnp : 0 < n := by omega
    go_enter Tryz.func153, Tryz.ntmps153
    go_wp2_with (at_builtin; refine Lib.wpList_append_run _ rfl _ _ _ _ rfl _ _ rfl rfl _ _ (HR.out _) ?_)
    go_ret
    exact ⟨_, rfl, HO.out, (Below.refl _ _).drew.alloc (Nat.le_refl _) _⟩

theorem run_append_none {P : Program} (w : World) (base : Nat) (t ty e : TypeId) (i : TypeInfo) (size : Nat) (ht : P.underlying t = some (.slice e)) (hi : P.info? e = some i) (hsize : i.size = size)
    (v : Value) (n : Nat) (xs : List Value) (hown : w.ownsRow base e size v n xs) : (Builtin.append_ #[t, t] ty #[v, .slice none 0 0]).run P w = .ok v w := by
  rcases hown.2 with ⟨rfl, rfl⟩ | ⟨g, cap, cur, rfl, hB, hg, hn, hm, hs, hx⟩
  · simp [Builtin.append_, run_underlying ht, sizeOf, typeInfo, hi, Builtin.lenOf, Builtin.firstCells, loadCells, loadCellsFrom]
  · simp [Builtin.append_, run_underlying ht, sizeOf, typeInfo, hi, Builtin.lenOf, Builtin.firstCells, loadCells, loadCellsFrom, storeCells, hn]

def sumL (ls : List (List EntD)) : Nat := ls.flatten.length
theorem sumL_snoc (ls : List (List EntD)) (k : Nat) (h : k < ls.length) : sumL (ls.take (k + 1)) = sumL (ls.take k) + ls[k].length := by
  unfold sumL
  rw [List.take_succ_eq_append_getElem h, List.flatten_append]; simp
theorem flat_snoc (ls : List (List EntD)) (k : Nat) (h : k < ls.length) : flatE (ls.take (k + 1)).flatten = flatE (ls.take k).flatten ++ flatE ls[k] := by
  rw [List.take_succ_eq_append_getElem h, List.flatten_append]; simp [flatE]
theorem sumL_le (ls : List (List EntD)) (k : Nat) : sumL (ls.take k) ≤ sumL ls := by
  unfold sumL
  have h : ls = ls.take k ++ ls.drop k := (List.take_append_drop k ls).symm
  calc (ls.take k).flatten.length ≤ (ls.take k).flatten.length + (ls.drop k).flatten.length := Nat.le_add_right _ _
    _ = ls.flatten.length := by rw [← List.length_append, ← List.flatten_append, ← h]

theorem RowAt.ofOwn {w : World} {B : Nat} {v : Value} {l : List EntD} (h : w.ownsRow B 54 5 v l.length (flatE l)) : RowAt w v l := by
  have hc := h
  rcases h.2 with ⟨rfl, h0⟩ | ⟨g, cap, cur, rfl, hB, hg, hn, hm, _⟩
  · obtain rfl : l = [] := List.eq_nil_of_length_eq_zero h0
    exact .nil
  · refine .row g 0 cap l (heap_lt hg) hn hm (at_flatE fun j u hu => ?_)
    have := hc.cells (g := g) rfl j u hu
    have e2 : ((⟨g, 0, none⟩ : Addr).add j) = ⟨g, j, none⟩ := by unfold Addr.add; split <;> simp_all
    rwa [e2] at this

set_option maxHeartbeats 4000000 in
set_option maxRecDepth 100000 in
theorem concat_any (pb n : Nat) (vs : List Value) (ls : List (List EntD)) (w : World) (hn : vs.length = n) (hls : ls.length = n) (hn3 : n ≤ 3) (hsum : sumL ls ≤ 1000) (hpb : pb < w.heap.size)
    (hcs : ∀ (k : Nat) (h : k < vs.length), w.cell? ⟨pb, k, none⟩ = some vs[k]) (hrs : ∀ (k : Nat) (h : k < vs.length) (h' : k < ls.length), RowAt w vs[k] ls[k]) :
    Calls Tryz.prog 144 #[.slice (some ⟨pb, 0, none⟩) n n] w fun e w' => ∃ v, e = .returned v ∧ w'.ownsRow w.heap.size 54 5 v ls.flatten.length (flatE ls.flatten) ∧ Below w.heap.size w w' := by
  obtain ⟨i0, hi, hz0, hz1, hz2⟩ := info_parts info54
  have HS := hidD (sumL_snoc ls)
  have HF := hidD (flat_snoc ls)
  have HC := hidD hcs
  have HR := hidD hrs
  have HL := hidD (sumL_le ls)
  clear hcs hrs
  go_enter Tryz.func144, Tryz.ntmps144
  go_wp2
  go_loopw [3, 11] (fun s i wr => ∃ k : Nat, k ≤ n ∧ i = .int .i64 k ∧ s = .int .i64 (sumL (ls.take k)) ∧ w = wr) (fun _ i _ => n - (intOf i).toNat)
  case atStart => exact ⟨0, Nat.zero_le _, rfl, rfl, rfl⟩
  case round =>
    obtain ⟨k, hk, rfl, rfl, rfl⟩ := hrel
    have hle := HL.out k
    by_cases hlt : k < n
    · have c0 := HC.out k (by omega)
      have hl' := HL.out (k + 1)
      have hsn := HS.out k (by omega)
      obtain ⟨a, c, hv⟩ := (HR.out k (by omega) (by omega)).val
      rw [hv] at c0
      generalize ls[k].length = m at *
      generalize sumL (ls.take k) = s at *
      have hm : s + m ≤ 1000 := by omega
      go_wp2
      exact ⟨⟨k + 1, by omega, by go_num, by rw [hsn]; go_num, by first | rfl | trivial⟩, by simp [intOf]; omega⟩
    · obtain rfl : k = n := by omega
      rw [List.take_of_length_le (by omega)]
      generalize hT : sumL ls = T at *
      go_wp2_with (go_at_call 153; refine (grow_own T _ (by omega)).mono ?_; rintro e w1 ⟨v1, rfl, hown1, hb1⟩)
      go_loopw [6, 27] (fun v i wr => ∃ j : Nat, j ≤ k ∧ i = .int .i64 j ∧ wr.ownsRow w.heap.size 54 5 v (sumL (ls.take j)) (flatE (ls.take j).flatten) ∧ Below w.heap.size w wr) (fun _ i _ => k - (intOf i).toNat)
      case atStart => exact ⟨0, Nat.zero_le _, rfl, by simpa [sumL, flatE] using hown1, hb1⟩
      case round =>
        obtain ⟨j, hj, rfl, hown, hbw⟩ := hrel
        have hbs := hbw.size
        by_cases hjk : j < k
        · have c0 := cell_kept hbw hpb (HC.out j (by omega))
          have hl' := HL.out (j + 1)
          have hl0 := HL.out j
          have hsn := HS.out j (by omega)
          have hfn := HF.out j (by omega)
          have hr := (HR.out j (by omega) (by omega)).below hbw (Nat.le_refl _)
          have HB := hidD hbw
          clear hbw
          generalize ls[j] = l at *
          generalize vs[j] = pv at *
          generalize hS0 : sumL (ls.take j) = s0 at *
          generalize hF0 : flatE (ls.take j).flatten = f0 at *
          cases hr with
          | nil =>
            have HN := hidD (fun ty => run_append_none (P := Tryz.prog) wr _ 22 ty 54 i0 5 Tryz.underlying22 hi hz1 _ _ _ hown)
            have HO := hidD hown
            clear hown
            go_wp2_with (at_builtin; refine Lib.wpList_append_run _ rfl _ _ _ _ rfl _ _ rfl rfl _ _ (HN.out _) ?_)
            exact ⟨⟨j + 1, by omega, by go_num, by rw [hsn, hfn]; simpa [flatE] using HO.out, HB.out⟩, by simp [intOf]; omega⟩
          | row b off cap l hlb hc hm h =>
            have HE := hidD (flatE_at h)
            clear h
            go_wp2_with (at_builtin; refine wpList_append_own _ rfl _ _ 22 rfl w.heap.size 54 i0 _ 5 48 Tryz.underlying22 hi hz0 hz1 hz2 rfl (by decide) _ _ _ rfl hown ⟨b, off, none⟩ l.length cap (flatE l) rfl (flatE_length l) HE.out (flatE_one l) (by unfold maxLen; omega) (by omega) hbs ?_; intro v2 w2 hown2 hg2 _)
            exact ⟨⟨j + 1, by omega, by go_num, by rw [hsn, hfn]; exact hown2, HB.out.grown hg2 hbs (fun q hq => (hown.lt q hq).1)⟩, by simp [intOf]; omega⟩
        · obtain rfl : j = k := by omega
          rw [List.take_of_length_le (by omega)] at hown
          go_wp2
          go_ret
          exact ⟨_, rfl, hown, hbw⟩
end Go.Proofs.YtemkpollilhmjaaGreatDoor

/- The library's BinarySearchFunc at this program: where an entry goes in. -/
namespace Go.Proofs.YtemkpollilhmjaaGreatDoor
open Go.RowKit
set_option linter.unusedVariables false
set_option linter.unusedSimpArgs false

set_option maxHeartbeats 1000000 in
theorem byPath_any (p q : ByteArray) (d d' : Bool) (i z m i' z' m' : Int) (w : World) (h1 : p.size ≤ 1500000) (h2 : q.size ≤ 1500000) :
    Calls Tryz.prog 143 #[.agg #[.string p, .bool d, .int .i64 i, .int .i64 z, .int .i64 m], .agg #[.string q, .bool d', .int .i64 i', .int .i64 z', .int .i64 m']] w fun e w' => e = .returned (.int .i64 (cmpL p.data.toList q.data.toList)) ∧ Below w.heap.size w w' := by
  go_enter Tryz.func143, Tryz.ntmps143
  go_wp2_with (go_at_call 49; refine (compare_any p q _ (by omega) (by omega)).mono ?_; rintro e w1 ⟨rfl, nq, rfl⟩)
  go_ret
  exact ⟨rfl, (((Below.refl _ _).alloc (Nat.le_refl _) _).alloc (by simp) _).trans (below_drewE _ nq)⟩

theorem srt_lo {L : List EntD} (h : Srt L) {m : Nat} (hm : m < L.length) {e : BL} (hk : key L[m].pl < key e) : ∀ (j : Nat) (hj : j < L.length), j < m + 1 → key L[j].pl < key e := by
  intro j hj hlt
  by_cases e : j = m
  · subst e; exact hk
  · exact List.lt_trans (h.at j m hj hm (by omega)) hk
theorem srt_hi {L : List EntD} (h : Srt L) {m : Nat} (hm : m < L.length) {e : BL} (hk : ¬ key L[m].pl < key e) : ∀ (j : Nat) (hj : j < L.length), m ≤ j → ¬ key L[j].pl < key e := by
  intro j hj hle hlt
  by_cases e : j = m
  · subst e; exact hk hlt
  · exact hk (List.lt_trans (h.at m j hm hj (by omega)) hlt)

set_option maxHeartbeats 4000000 in
set_option maxRecDepth 100000 in
theorem search_any (b off cap : Nat) (L : List EntD) (e : EntD) (w : World) (hl : L.length ≤ 2000000) (hs : ∀ o ∈ L, o.small) (hes : e.small) (hb : b < w.heap.size) (hc : EntsAt w b off L) (hsrt : Srt L) :
    Calls Tryz.prog 142 #[.slice (some ⟨b, off, none⟩) L.length cap, .agg #[.string e.path, .bool e.dir, .int .i64 e.id, .int .i64 e.size, .int .i64 e.mode], .func (.func 143) #[] #[]] w fun r w' => ∃ (i : Nat) (f : Bool), r = .returned (.tuple #[.int .i64 i, .bool f]) ∧ i ≤ L.length ∧ (∀ (j : Nat) (hj : j < L.length), j < i → key L[j].pl < key e.pl) ∧ (∀ (j : Nat) (hj : j < L.length), i ≤ j → ¬ key L[j].pl < key e.pl) ∧ Below w.heap.size w w' := by
  have st := Eb.start w e
  have ST := hidD st
  have HC := hidD hc
  have HSm := hidD hs
  have HSr := hidD hsrt
  clear hc hs hsrt st
  have hes' : e.path.size ≤ 1500000 := hes
  go_enter Tryz.func142, Tryz.ntmps142
  go_wp2
  go_loopg [9, 10] L.length (fun kx s9 s10 wr => ∃ lo hi : Nat, s9 = .int .i64 lo ∧ s10 = .int .i64 hi ∧ lo ≤ hi ∧ hi ≤ L.length ∧ hi - lo ≤ kx ∧ Hid (Eb w e wr) ∧
    Hid ((∀ (j : Nat) (hj : j < L.length), j < lo → key L[j].pl < key e.pl) ∧ (∀ (j : Nat) (hj : j < L.length), hi ≤ j → ¬ key L[j].pl < key e.pl)))
  case atStart => exact ⟨0, L.length, rfl, rfl, Nat.zero_le _, Nat.le_refl _, by omega, ST, (⟨fun j hj h => absurd h (Nat.not_lt_zero _), fun j hj h => by omega⟩ : (∀ (j : Nat) (hj : j < L.length), j < 0 → key L[j].pl < key e.pl) ∧ (∀ (j : Nat) (hj : j < L.length), L.length ≤ j → ¬ key L[j].pl < key e.pl))⟩
  case round =>
    obtain ⟨lo, hi, rfl, rfl, hlh, hin, hg, S1, I⟩ := hrel
    have hlt0 := S1.out.lt
    by_cases hlt : lo < hi
    · have hmid : (lo + hi) / 2 < L.length := by omega
      have hcw := (HC.out.below S1.out.bel hb) ((lo + hi) / 2) hmid
      have hk := cmpL_key L[(lo + hi) / 2].pl e.pl
      have hsm : L[(lo + hi) / 2].path.size ≤ 1500000 := HSm.out _ (List.getElem_mem hmid)
      have HO := hidD (rfl : L[(lo + hi) / 2] = L[(lo + hi) / 2])
      generalize hoo : L[(lo + hi) / 2] = o at hcw hk hsm
      have HOO := hidD hoo
      clear hoo HO
      have c0 := hcw 0 _ rfl
      have c1 := hcw 1 _ rfl
      have c2 := hcw 2 _ rfl
      have c3 := hcw 3 _ rfl
      have c4 := hcw 4 _ rfl
      simp only [Nat.add_zero] at c0
      clear hcw
      have k0 := S1.out.cell 0
      have k1 := S1.out.cell 1
      have k2 := S1.out.cell 2
      have k3 := S1.out.cell 3
      have k4 := S1.out.cell 4
      simp [EntD.cells] at k0 k1 k2 k3 k4
      have HK := hidD hk
      clear hk
      have em : ((lo : Int) + (hi : Int)) / 2 = (((lo + hi) / 2 : Nat) : Int) := by omega
      have hm1 : lo ≤ (lo + hi) / 2 := by omega
      have hm2 : (lo + hi) / 2 < hi := by omega
      have hbw : b < wr.heap.size := by omega
      generalize hmd : (lo + hi) / 2 = md at *
      have HM := hidD hmd
      clear hmd
      by_cases hy : cmpL o.path.data.toList e.path.data.toList < 0
      · go_wp2
        go_region_held (fun u => u.cell? ⟨w.heap.size, 0, none⟩ = some (.string e.path) ∧ u.cell? ⟨w.heap.size, 1, none⟩ = some (.bool e.dir) ∧ u.cell? ⟨w.heap.size, 2, none⟩ = some (.int .i64 e.id) ∧ u.cell? ⟨w.heap.size, 3, none⟩ = some (.int .i64 e.size) ∧ u.cell? ⟨w.heap.size, 4, none⟩ = some (.int .i64 e.mode) ∧ u.cell? ⟨b, off + md * 5, none⟩ = some (.string o.path) ∧ u.cell? ⟨b, off + md * 5 + 1, none⟩ = some (.bool o.dir) ∧ u.cell? ⟨b, off + md * 5 + 2, none⟩ = some (.int .i64 o.id) ∧ u.cell? ⟨b, off + md * 5 + 3, none⟩ = some (.int .i64 o.size) ∧ u.cell? ⟨b, off + md * 5 + 4, none⟩ = some (.int .i64 o.mode)) (go_keep) (first | (go_at_call 143; refine (byPath_any o.path e.path o.dir e.dir o.id o.size o.mode e.id e.size e.mode _ hsm hes').mono ?_; rintro r w1 ⟨rfl, hb1⟩; have s2 := (S1.out.drewN 1).below hb1; have d0 := s2.cell 0; have d1 := s2.cell 1; have d2 := s2.cell 2; have d3 := s2.cell 3; have d4 := s2.cell 4; simp [EntD.cells] at d0 d1 d2 d3 d4; have hblt : b < (wr.drewN 1).heap.size := hbw; have g0 := cell_kept hb1 hblt (by exact c0); have g1 := cell_kept hb1 hblt (by exact c1); have g2 := cell_kept hb1 hblt (by exact c2); have g3 := cell_kept hb1 hblt (by exact c3); have g4 := cell_kept hb1 hblt (by exact c4)))
        all_goals go_wp2
        all_goals go_roundg (hi - (md + 1))
        case measure => omega
        case rel =>
          have hk : key L[md].pl < key e.pl := by rw [HOO.out]; exact HK.out.1.1 hy
          have I2 : Hid ((∀ (j : Nat) (hj : j < L.length), j < md + 1 → key L[j].pl < key e.pl) ∧ (∀ (j : Nat) (hj : j < L.length), hi ≤ j → ¬ key L[j].pl < key e.pl)) := ⟨srt_lo HSr.out hmid hk, I.out.2⟩
          exact ⟨md + 1, hi, by first | rfl | go_num, rfl, by omega, hin, Nat.le_refl _, s2, I2⟩
      · go_wp2
        go_region_held (fun u => u.cell? ⟨w.heap.size, 0, none⟩ = some (.string e.path) ∧ u.cell? ⟨w.heap.size, 1, none⟩ = some (.bool e.dir) ∧ u.cell? ⟨w.heap.size, 2, none⟩ = some (.int .i64 e.id) ∧ u.cell? ⟨w.heap.size, 3, none⟩ = some (.int .i64 e.size) ∧ u.cell? ⟨w.heap.size, 4, none⟩ = some (.int .i64 e.mode) ∧ u.cell? ⟨b, off + md * 5, none⟩ = some (.string o.path) ∧ u.cell? ⟨b, off + md * 5 + 1, none⟩ = some (.bool o.dir) ∧ u.cell? ⟨b, off + md * 5 + 2, none⟩ = some (.int .i64 o.id) ∧ u.cell? ⟨b, off + md * 5 + 3, none⟩ = some (.int .i64 o.size) ∧ u.cell? ⟨b, off + md * 5 + 4, none⟩ = some (.int .i64 o.mode)) (go_keep) (first | (go_at_call 143; refine (byPath_any o.path e.path o.dir e.dir o.id o.size o.mode e.id e.size e.mode _ hsm hes').mono ?_; rintro r w1 ⟨rfl, hb1⟩; have s2 := (S1.out.drewN 1).below hb1; have d0 := s2.cell 0; have d1 := s2.cell 1; have d2 := s2.cell 2; have d3 := s2.cell 3; have d4 := s2.cell 4; simp [EntD.cells] at d0 d1 d2 d3 d4; have hblt : b < (wr.drewN 1).heap.size := hbw; have g0 := cell_kept hb1 hblt (by exact c0); have g1 := cell_kept hb1 hblt (by exact c1); have g2 := cell_kept hb1 hblt (by exact c2); have g3 := cell_kept hb1 hblt (by exact c3); have g4 := cell_kept hb1 hblt (by exact c4)))
        all_goals go_wp2
        all_goals go_roundg (md - lo)
        case measure => omega
        case rel =>
          have hk : ¬ key L[md].pl < key e.pl := by rw [HOO.out]; exact fun h => by have h1 := HK.out.1.2 h; have h2 : 0 ≤ cmpL o.pl e.pl := hy; omega
          have I2 : Hid ((∀ (j : Nat) (hj : j < L.length), j < lo → key L[j].pl < key e.pl) ∧ (∀ (j : Nat) (hj : j < L.length), md ≤ j → ¬ key L[j].pl < key e.pl)) := ⟨I.out.1, srt_hi HSr.out hmid hk⟩
          exact ⟨lo, md, rfl, rfl, by omega, by omega, Nat.le_refl _, s2, I2⟩
    · obtain rfl : hi = lo := by omega
      by_cases hn : hi < L.length
      · have hcw := (HC.out.below S1.out.bel hb) hi hn
        have hsm : L[hi].path.size ≤ 1500000 := HSm.out _ (List.getElem_mem hn)
        have hbw : b < wr.heap.size := by omega
        generalize L[hi] = o at hcw hsm
        have c0 := hcw 0 _ rfl
        have c1 := hcw 1 _ rfl
        have c2 := hcw 2 _ rfl
        have c3 := hcw 3 _ rfl
        have c4 := hcw 4 _ rfl
        simp only [Nat.add_zero] at c0
        clear hcw
        have k0 := S1.out.cell 0
        have k1 := S1.out.cell 1
        have k2 := S1.out.cell 2
        have k3 := S1.out.cell 3
        have k4 := S1.out.cell 4
        simp [EntD.cells] at k0 k1 k2 k3 k4
        generalize hmd : hi = md at *
        have hd : decide ((md : Int) < (L.length : Int)) = true := by simp; omega
        go_wp2
        go_region_held (fun u => u.cell? ⟨w.heap.size, 0, none⟩ = some (.string e.path) ∧ u.cell? ⟨w.heap.size, 1, none⟩ = some (.bool e.dir) ∧ u.cell? ⟨w.heap.size, 2, none⟩ = some (.int .i64 e.id) ∧ u.cell? ⟨w.heap.size, 3, none⟩ = some (.int .i64 e.size) ∧ u.cell? ⟨w.heap.size, 4, none⟩ = some (.int .i64 e.mode) ∧ u.cell? ⟨b, off + md * 5, none⟩ = some (.string o.path) ∧ u.cell? ⟨b, off + md * 5 + 1, none⟩ = some (.bool o.dir) ∧ u.cell? ⟨b, off + md * 5 + 2, none⟩ = some (.int .i64 o.id) ∧ u.cell? ⟨b, off + md * 5 + 3, none⟩ = some (.int .i64 o.size) ∧ u.cell? ⟨b, off + md * 5 + 4, none⟩ = some (.int .i64 o.mode)) (go_keep) (first | (go_at_call 143; refine (byPath_any o.path e.path o.dir e.dir o.id o.size o.mode e.id e.size e.mode _ hsm hes').mono ?_; rintro r w1 ⟨rfl, hb1⟩; have s2 := (S1.out.drewN 1).below hb1; have d0 := s2.cell 0; have d1 := s2.cell 1; have d2 := s2.cell 2; have d3 := s2.cell 3; have d4 := s2.cell 4; simp [EntD.cells] at d0 d1 d2 d3 d4; have hblt : b < (wr.drewN 1).heap.size := hbw; have g0 := cell_kept hb1 hblt (by exact c0); have g1 := cell_kept hb1 hblt (by exact c1); have g2 := cell_kept hb1 hblt (by exact c2); have g3 := cell_kept hb1 hblt (by exact c3); have g4 := cell_kept hb1 hblt (by exact c4)))
        all_goals go_wp2
        all_goals go_ret2
        all_goals exact ⟨md, _, rfl, hin, I.out.1, I.out.2, s2.bel⟩
      · have hd : decide ((hi : Int) < (L.length : Int)) = false := by simp; omega
        go_wp2
        go_quiet (fail)
        all_goals go_wp2
        all_goals go_ret2
        all_goals exact ⟨hi, _, rfl, hin, I.out.1, I.out.2, (S1.out.drewN _).bel⟩
end Go.Proofs.YtemkpollilhmjaaGreatDoor

/- A volume in memory: the entries with one more, and with one less. -/
namespace Go.Proofs.YtemkpollilhmjaaGreatDoor
open Go.RowKit
set_option linter.unusedVariables false
set_option linter.unusedSimpArgs false

theorem own_mono {w : World} {B B' : Nat} {v : Value} {n : Nat} {xs : List Value} (h : w.ownsRow B 54 5 v n xs) (hb : B' ≤ B) : w.ownsRow B' 54 5 v n xs :=
  ⟨h.1, h.2.imp id fun ⟨g, cap, cur, h1, h2, h3⟩ => ⟨g, cap, cur, h1, Nat.le_trans hb h2, h3⟩⟩
theorem own_shape {w : World} {B : Nat} {v : Value} {n : Nat} {xs : List Value} (h : w.ownsRow B 54 5 v n xs) : ∃ a m c, v = .slice a m c := by
  rcases h.2 with ⟨rfl, rfl⟩ | ⟨g, cap, cur, rfl, _⟩
  · exact ⟨_, _, _, rfl⟩
  · exact ⟨_, _, _, rfl⟩
theorem EntsAt.drop {w : World} {b off : Nat} {l : List EntD} (h : EntsAt w b off l) (n : Nat) : EntsAt w b (off + n * 5) (l.drop n) := by
  intro k hk j v hv
  have hk' : n + k < l.length := by simp at hk; omega
  rw [List.getElem_drop] at hv
  have := h (n + k) hk' j v hv
  rwa [show off + n * 5 + k * 5 + j = off + (n + k) * 5 + j by omega]
theorem RowAt.take {w : World} {b off cap : Nat} {l : List EntD} (hb : b < w.heap.size) (hc : l.length ≤ cap) (hm : cap ≤ maxLen) (h : EntsAt w b off l) (i : Nat) (hi : i ≤ l.length) : RowAt w (.slice (some ⟨b, off, none⟩) i cap) (l.take i) := by
  have := RowAt.row (w := w) b off cap (l.take i) hb (by simp; omega) hm (h.take i)
  rwa [List.length_take, Nat.min_eq_left hi] at this
theorem RowAt.drop {w : World} {b off cap : Nat} {l : List EntD} (hb : b < w.heap.size) (hc : l.length ≤ cap) (hm : cap ≤ maxLen) (h : EntsAt w b off l) (i : Nat) (hi : i ≤ l.length) : RowAt w (.slice (some ⟨b, off + i * 5, none⟩) (l.length - i) (cap - i)) (l.drop i) := by
  have := RowAt.row (w := w) b (off + i * 5) (cap - i) (l.drop i) hb (by simp; omega) (by omega) (h.drop i)
  rwa [List.length_drop] at this

theorem cells_new (w : World) (e : EntD) : EntsAt (w.alloc (.cells e.cells.toArray 54)) w.heap.size 0 [e] := by
  intro k hk j v hv
  obtain rfl : k = 0 := by simp at hk; omega
  simp only [List.getElem_cons_zero] at hv
  rw [show 0 + 0 * 5 + j = j by omega, World.cell?_alloc_at _ _ _ _ rfl, ← hv]
  simp

theorem RowAt.dropIf {w : World} {b off cap : Nat} {l : List EntD} (hb : b < w.heap.size) (hc : l.length ≤ cap) (hm : cap ≤ maxLen) (h : EntsAt w b off l) (i : Nat) (hi : i ≤ l.length) : RowAt w (.slice (if cap = i then some ⟨b, off, none⟩ else some ⟨b, off + i * 5, none⟩) (l.length - i) (cap - i)) (l.drop i) := by
  by_cases he : cap = i
  · rw [if_pos he]
    have hl : l.drop i = [] := List.drop_eq_nil_of_le (by omega)
    rw [hl, show l.length - i = 0 by omega]
    exact RowAt.row (w := w) b off (cap - i) [] hb (by simp) (by omega) (fun k hk => by simp at hk)
  · rw [if_neg he]
    exact RowAt.drop hb hc hm h i hi

theorem concat3 (u : World) (e : EntD) (v1 v3 : Value) (l1 l3 : List EntD) (h1 : RowAt u v1 l1) (h3 : RowAt u v3 l3) (hl : l1.length + l3.length ≤ 900) :
    Calls Tryz.prog 144 #[.slice (some ⟨u.heap.size + 1, 0, none⟩) 3 3] ((u.alloc (.cells e.cells.toArray 54)).alloc (.cells #[v1, .slice (some ⟨u.heap.size, 0, none⟩) 1 1, v3] 22)).drew fun r w' => ∃ v, r = .returned v ∧ w'.ownsRow u.heap.size 54 5 v (l1 ++ e :: l3).length (flatE (l1 ++ e :: l3)) ∧ Below u.heap.size u w' := by
  have hs2 : Below u.heap.size u ((u.alloc (.cells e.cells.toArray 54)).alloc (.cells #[v1, .slice (some ⟨u.heap.size, 0, none⟩) 1 1, v3] 22)).drew := (((Below.refl _ _).alloc (Nat.le_refl _) _).alloc (by simp) _).drew
  have hz : ((u.alloc (.cells e.cells.toArray 54)).alloc (.cells #[v1, .slice (some ⟨u.heap.size, 0, none⟩) 1 1, v3] 22)).drew.heap.size = u.heap.size + 2 := by
    show ((u.alloc (.cells e.cells.toArray 54)).alloc (.cells #[v1, .slice (some ⟨u.heap.size, 0, none⟩) 1 1, v3] 22)).heap.size = _
    simp
  have hrow : RowAt ((u.alloc (.cells e.cells.toArray 54)).alloc (.cells #[v1, .slice (some ⟨u.heap.size, 0, none⟩) 1 1, v3] 22)).drew (.slice (some ⟨u.heap.size, 0, none⟩) 1 1) [e] := by
    refine RowAt.row u.heap.size 0 1 [e] (by rw [hz]; omega) (Nat.le_refl _) (by unfold maxLen; omega) ?_
    exact (cells_new u e).below ((Below.refl (u.heap.size + 1) _).alloc (by simp) _).drew (by omega)
  have hcell : ∀ (k : Nat) (hk : k < [v1, Value.slice (some ⟨u.heap.size, 0, none⟩) 1 1, v3].length), ((u.alloc (.cells e.cells.toArray 54)).alloc (.cells #[v1, .slice (some ⟨u.heap.size, 0, none⟩) 1 1, v3] 22)).drew.cell? ⟨u.heap.size + 1, k, none⟩ = some [v1, Value.slice (some ⟨u.heap.size, 0, none⟩) 1 1, v3][k] := by
    intro k hk
    show ((u.alloc (.cells e.cells.toArray 54)).alloc (.cells #[v1, .slice (some ⟨u.heap.size, 0, none⟩) 1 1, v3] 22)).cell? ⟨u.heap.size + 1, k, none⟩ = _
    rw [show u.heap.size + 1 = (u.alloc (.cells e.cells.toArray 54)).heap.size by simp, World.cell?_alloc_at _ _ _ _ rfl]
    match k, hk with
    | 0, _ => rfl
    | 1, _ => rfl
    | 2, _ => rfl
  generalize ((u.alloc (.cells e.cells.toArray 54)).alloc (.cells #[v1, .slice (some ⟨u.heap.size, 0, none⟩) 1 1, v3] 22)).drew = x at *
  have := concat_any (u.heap.size + 1) 3 [v1, .slice (some ⟨u.heap.size, 0, none⟩) 1 1, v3] [l1, [e], l3] x rfl rfl (by omega) (by simp [sumL]; omega) (by rw [hz]; omega) hcell (fun k hk hk' => by
      match k, hk, hk' with
      | 0, _, _ => exact h1.below hs2 (Nat.le_refl _)
      | 1, _, _ => exact hrow
      | 2, _, _ => exact h3.below hs2 (Nat.le_refl _))
  refine this.mono ?_
  rintro r w' ⟨v, rfl, hown, hb⟩
  rw [hz] at hown hb
  refine ⟨v, rfl, ?_, hs2.trans (hb.mono (by omega))⟩
  have h' := own_mono hown (show u.heap.size ≤ u.heap.size + 2 by omega)
  simpa using h'

set_option maxHeartbeats 1000000 in
theorem search_nil (e : EntD) (w : World) :
    Calls Tryz.prog 142 #[.slice none 0 0, .agg #[.string e.path, .bool e.dir, .int .i64 e.id, .int .i64 e.size, .int .i64 e.mode], .func (.func 143) #[] #[]] w fun r w' => r = .returned (.tuple #[.int .i64 (0 : Nat), .bool false]) ∧ Below w.heap.size w w' := by
  go_enter Tryz.func142, Tryz.ntmps142
  go_wp2
  refine wp_loop_rounds 1 ?_
  rw [rounds_succ]
  go_wp2
  go_quiet (fail)
  go_wp2
  go_ret2
  exact ⟨rfl, ((Eb.start w e).drewN _).bel⟩

set_option maxHeartbeats 2000000 in
set_option maxRecDepth 100000 in
theorem vwith_row {w : World} {vb b off cap : Nat} {L : List EntD} {fold : Bool} {space : Int} (hv : VolAt w vb (.slice (some ⟨b, off, none⟩) L.length cap) fold space) (hlb : b < w.heap.size) (hcp : L.length ≤ cap) (hm : cap ≤ maxLen) (hc : EntsAt w b off L) (hl : L.length ≤ 120) (hs : ∀ o ∈ L, o.small) (hsrt : Srt L) (e : EntD) (hes : e.small) (hne : ∀ x ∈ L, x.pl ≠ e.pl) :
    Calls Tryz.prog 126 #[.pointer (some ⟨vb, 0, none⟩), .agg #[.string e.path, .bool e.dir, .int .i64 e.id, .int .i64 e.size, .int .i64 e.mode]] w fun r w' => ∃ v', r = .returned v' ∧ w'.ownsRow w.heap.size 54 5 v' (insL e L).length (flatE (insL e L)) ∧ Below w.heap.size w w' := by
  have st := Eb.start w e
  have HS : Hid (∀ u : World, Eb w e u → Calls Tryz.prog 142 #[.slice (some ⟨b, off, none⟩) L.length cap, .agg #[.string e.path, .bool e.dir, .int .i64 e.id, .int .i64 e.size, .int .i64 e.mode], .func (.func 143) #[] #[]] u fun r w' => ∃ (i : Nat) (f : Bool), r = .returned (.tuple #[.int .i64 i, .bool f]) ∧ i ≤ L.length ∧ insL e L = L.take i ++ e :: L.drop i ∧ Below u.heap.size u w') := fun u su => by
    refine (search_any b off cap L e u (by omega) hs hes (by have := su.bel.size; omega) (hc.below su.bel hlb) hsrt).mono ?_
    rintro r w' ⟨i, f, rfl, hi, h1, h2, hb⟩
    refine ⟨i, f, rfl, hi, insL_at e L i hi h1 (fun j hj hij => ?_) hsrt, hb⟩
    have hk := cmpL_key L[j].pl e.pl
    have h3 := h2 j hj hij
    have h4 := hne _ (List.getElem_mem hj)
    exact hk.2.1.1 (by
      have a1 : ¬ cmpL L[j].pl e.pl < 0 := fun h => h3 (hk.1.1 h)
      have a2 : ¬ cmpL L[j].pl e.pl = 0 := fun h => h4 (hk.2.2.1 h)
      omega)
  have HV := hidD hv
  have HC := hidD hc
  have hvlt := hv.lt
  have ST := hidD st
  have c0 : (w.alloc (.cells e.cells.toArray 54)).cell? ⟨vb, 0, none⟩ = some (.slice (some ⟨b, off, none⟩) L.length cap) := (hv.below st.bel hv.lt).c0
  clear hv hc hs hsrt hne
  have k0 := st.cell 0
  have k1 := st.cell 1
  have k2 := st.cell 2
  have k3 := st.cell 3
  have k4 := st.cell 4
  simp [EntD.cells] at k0 k1 k2 k3 k4 c0
  clear st
  go_enter Tryz.func126, Tryz.ntmps126
  go_wp2
  go_region_held (fun u => u.cell? ⟨vb, 0, none⟩ = some (.slice (some ⟨b, off, none⟩) L.length cap) ∧ u.cell? ⟨w.heap.size, 0, none⟩ = some (.string e.path) ∧ u.cell? ⟨w.heap.size, 1, none⟩ = some (.bool e.dir) ∧ u.cell? ⟨w.heap.size, 2, none⟩ = some (.int .i64 e.id) ∧ u.cell? ⟨w.heap.size, 3, none⟩ = some (.int .i64 e.size) ∧ u.cell? ⟨w.heap.size, 4, none⟩ = some (.int .i64 e.mode)) (go_keep) (first | (go_at_call 142; refine (HS.out _ (ST.out.drewN 1)).mono ?_; rintro r w1 ⟨i, f, rfl, hi, hins, hb1⟩; have s2 := (ST.out.drewN 1).below hb1; have d0 := s2.cell 0; have d1 := s2.cell 1; have d2 := s2.cell 2; have d3 := s2.cell 3; have d4 := s2.cell 4; have dv := (HV.out.below s2.bel hvlt).c0; simp [EntD.cells] at d0 d1 d2 d3 d4))
  all_goals go_wp2
  clear k0 k1 k2 k3 k4 c0
  have H3 := hidD (concat3 w1 e _ _ _ _ (RowAt.take (by have := s2.bel.size; omega) hcp hm (HC.out.below s2.bel hlb) i hi) (RowAt.dropIf (by have := s2.bel.size; omega) hcp hm (HC.out.below s2.bel hlb) i hi) (by simp; omega))
  have hic : i ≤ cap := by omega
  have hicz : (i : Int) ≤ (cap : Int) := by omega
  have hicl : (i : Int) ≤ (L.length : Int) := by omega
  by_cases he : cap = i
  · rw [if_pos he] at H3
    subst he
    simp only [Nat.sub_self, show L.length - cap = 0 by omega] at H3
    go_region_held (fun u => u.cell? ⟨vb, 0, none⟩ = some (.slice (some ⟨b, off, none⟩) L.length cap) ∧ u.cell? ⟨w.heap.size, 0, none⟩ = some (.string e.path) ∧ u.cell? ⟨w.heap.size, 1, none⟩ = some (.bool e.dir) ∧ u.cell? ⟨w.heap.size, 2, none⟩ = some (.int .i64 e.id) ∧ u.cell? ⟨w.heap.size, 3, none⟩ = some (.int .i64 e.size) ∧ u.cell? ⟨w.heap.size, 4, none⟩ = some (.int .i64 e.mode)) (go_keep) (first | (go_at_call 144; refine (H3.out).mono ?_; rintro r w3 ⟨v3, rfl, hown3, hb3⟩; obtain ⟨a3, m3, c3, rfl⟩ := own_shape hown3; have s3 := s2.below hb3; have f0 := s3.cell 0; have f1 := s3.cell 1; have f2 := s3.cell 2; have f3 := s3.cell 3; have f4 := s3.cell 4; have fv := (HV.out.below s3.bel hvlt).c0; simp [EntD.cells] at f0 f1 f2 f3 f4))
    all_goals go_wp2
    all_goals go_ret
    all_goals exact ⟨_, rfl, by rw [hins]; exact own_mono hown3 (Nat.le_of_lt s2.lt), s3.bel⟩
  · rw [if_neg he] at H3
    go_region_held (fun u => u.cell? ⟨vb, 0, none⟩ = some (.slice (some ⟨b, off, none⟩) L.length cap) ∧ u.cell? ⟨w.heap.size, 0, none⟩ = some (.string e.path) ∧ u.cell? ⟨w.heap.size, 1, none⟩ = some (.bool e.dir) ∧ u.cell? ⟨w.heap.size, 2, none⟩ = some (.int .i64 e.id) ∧ u.cell? ⟨w.heap.size, 3, none⟩ = some (.int .i64 e.size) ∧ u.cell? ⟨w.heap.size, 4, none⟩ = some (.int .i64 e.mode)) (go_keep) (first | (go_at_call 144; refine (H3.out).mono ?_; rintro r w3 ⟨v3, rfl, hown3, hb3⟩; obtain ⟨a3, m3, c3, rfl⟩ := own_shape hown3; have s3 := s2.below hb3; have f0 := s3.cell 0; have f1 := s3.cell 1; have f2 := s3.cell 2; have f3 := s3.cell 3; have f4 := s3.cell 4; have fv := (HV.out.below s3.bel hvlt).c0; simp [EntD.cells] at f0 f1 f2 f3 f4))
    all_goals go_wp2
    all_goals go_ret
    all_goals exact ⟨_, rfl, by rw [hins]; exact own_mono hown3 (Nat.le_of_lt s2.lt), s3.bel⟩

set_option maxHeartbeats 2000000 in
set_option maxRecDepth 100000 in
theorem vwith_nil {w : World} {vb : Nat} {fold : Bool} {space : Int} (hv : VolAt w vb (.slice none 0 0) fold space) (e : EntD) :
    Calls Tryz.prog 126 #[.pointer (some ⟨vb, 0, none⟩), .agg #[.string e.path, .bool e.dir, .int .i64 e.id, .int .i64 e.size, .int .i64 e.mode]] w fun r w' => ∃ v', r = .returned v' ∧ w'.ownsRow w.heap.size 54 5 v' (insL e []).length (flatE (insL e [])) ∧ Below w.heap.size w w' := by
  have st := Eb.start w e
  have HV := hidD hv
  have hvlt := hv.lt
  have ST := hidD st
  have c0 : (w.alloc (.cells e.cells.toArray 54)).cell? ⟨vb, 0, none⟩ = some (.slice none 0 0) := (hv.below st.bel hv.lt).c0
  clear hv
  have k0 := st.cell 0
  have k1 := st.cell 1
  have k2 := st.cell 2
  have k3 := st.cell 3
  have k4 := st.cell 4
  simp [EntD.cells] at k0 k1 k2 k3 k4 c0
  clear st
  go_enter Tryz.func126, Tryz.ntmps126
  go_wp2
  go_region_held (fun u => u.cell? ⟨vb, 0, none⟩ = some (.slice none 0 0) ∧ u.cell? ⟨w.heap.size, 0, none⟩ = some (.string e.path) ∧ u.cell? ⟨w.heap.size, 1, none⟩ = some (.bool e.dir) ∧ u.cell? ⟨w.heap.size, 2, none⟩ = some (.int .i64 e.id) ∧ u.cell? ⟨w.heap.size, 3, none⟩ = some (.int .i64 e.size) ∧ u.cell? ⟨w.heap.size, 4, none⟩ = some (.int .i64 e.mode)) (go_keep) (first | (go_at_call 142; refine (search_nil e _).mono ?_; rintro r w1 ⟨rfl, hb1⟩; have s2 := (ST.out.drewN 1).below hb1; have d0 := s2.cell 0; have d1 := s2.cell 1; have d2 := s2.cell 2; have d3 := s2.cell 3; have d4 := s2.cell 4; have dv := (HV.out.below s2.bel hvlt).c0; simp [EntD.cells] at d0 d1 d2 d3 d4))
  all_goals go_wp2
  clear k0 k1 k2 k3 k4 c0
  have H3 := hidD (concat3 w1 e _ _ _ _ RowAt.nil RowAt.nil (by simp))
  go_region_held (fun u => u.cell? ⟨vb, 0, none⟩ = some (.slice none 0 0) ∧ u.cell? ⟨w.heap.size, 0, none⟩ = some (.string e.path) ∧ u.cell? ⟨w.heap.size, 1, none⟩ = some (.bool e.dir) ∧ u.cell? ⟨w.heap.size, 2, none⟩ = some (.int .i64 e.id) ∧ u.cell? ⟨w.heap.size, 3, none⟩ = some (.int .i64 e.size) ∧ u.cell? ⟨w.heap.size, 4, none⟩ = some (.int .i64 e.mode)) (go_keep) (first | (go_at_call 144; refine (H3.out).mono ?_; rintro r w3 ⟨v3, rfl, hown3, hb3⟩; obtain ⟨a3, m3, c3, rfl⟩ := own_shape hown3; have s3 := s2.below hb3; have f0 := s3.cell 0; have f1 := s3.cell 1; have f2 := s3.cell 2; have f3 := s3.cell 3; have f4 := s3.cell 4; have fv := (HV.out.below s3.bel hvlt).c0; simp [EntD.cells] at f0 f1 f2 f3 f4))
  all_goals go_wp2
  all_goals go_ret
  all_goals exact ⟨_, rfl, own_mono hown3 (Nat.le_of_lt s2.lt), s3.bel⟩

theorem vwith {w : World} {vb : Nat} {v : Value} {L : List EntD} {fold : Bool} {space : Int} (hv : VolAt w vb v fold space) (hr : RowAt w v L) (hl : L.length ≤ 120) (hs : ∀ o ∈ L, o.small) (hsrt : Srt L) (e : EntD) (hes : e.small) (hne : ∀ x ∈ L, x.pl ≠ e.pl) :
    Calls Tryz.prog 126 #[.pointer (some ⟨vb, 0, none⟩), .agg #[.string e.path, .bool e.dir, .int .i64 e.id, .int .i64 e.size, .int .i64 e.mode]] w fun r w' => ∃ v', r = .returned v' ∧ w'.ownsRow w.heap.size 54 5 v' (insL e L).length (flatE (insL e L)) ∧ Below w.heap.size w w' := by
  cases hr with
  | nil => exact vwith_nil hv e
  | row b off cap l hlb hc hm h => exact vwith_row hv hlb hc hm h hl hs hsrt e hes hne
end Go.Proofs.YtemkpollilhmjaaGreatDoor

/- A volume in memory: the entries with one less; a file more, where there is space. -/
namespace Go.Proofs.YtemkpollilhmjaaGreatDoor
open Go.RowKit
set_option linter.unusedVariables false
set_option linter.unusedSimpArgs false

theorem concat2 (u : World) (v1 v2 : Value) (l1 l2 : List EntD) (h1 : RowAt u v1 l1) (h2 : RowAt u v2 l2) (hl : l1.length + l2.length ≤ 900) :
    Calls Tryz.prog 144 #[.slice (some ⟨u.heap.size, 0, none⟩) 2 2] (u.alloc (.cells #[v1, v2] 22)).drew fun r w' => ∃ v, r = .returned v ∧ w'.ownsRow u.heap.size 54 5 v (l1 ++ l2).length (flatE (l1 ++ l2)) ∧ Below u.heap.size u w' := by
  have hs2 : Below u.heap.size u (u.alloc (.cells #[v1, v2] 22)).drew := ((Below.refl _ _).alloc (Nat.le_refl _) _).drew
  have hz : (u.alloc (.cells #[v1, v2] 22)).drew.heap.size = u.heap.size + 1 := by
    show (u.alloc (.cells #[v1, v2] 22)).heap.size = _
    simp
  have hcell : ∀ (k : Nat) (hk : k < [v1, v2].length), (u.alloc (.cells #[v1, v2] 22)).drew.cell? ⟨u.heap.size, k, none⟩ = some [v1, v2][k] := by
    intro k hk
    show (u.alloc (.cells #[v1, v2] 22)).cell? ⟨u.heap.size, k, none⟩ = _
    rw [World.cell?_alloc_at _ _ _ _ rfl]
    match k, hk with
    | 0, _ => rfl
    | 1, _ => rfl
  generalize (u.alloc (.cells #[v1, v2] 22)).drew = x at *
  have := concat_any u.heap.size 2 [v1, v2] [l1, l2] x rfl rfl (by omega) (by simp [sumL]; omega) (by rw [hz]; omega) hcell (fun k hk hk' => by
      match k, hk, hk' with
      | 0, _, _ => exact h1.below hs2 (Nat.le_refl _)
      | 1, _, _ => exact h2.below hs2 (Nat.le_refl _))
  refine this.mono ?_
  rintro r w' ⟨v, rfl, hown, hb⟩
  rw [hz] at hown hb
  refine ⟨v, rfl, ?_, hs2.trans (hb.mono (by omega))⟩
  have h' := own_mono hown (show u.heap.size ≤ u.heap.size + 1 by omega)
  simpa using h'

set_option maxHeartbeats 2000000 in
set_option maxRecDepth 100000 in
theorem vwithout {w : World} {vb : Nat} {v : Value} {L : List EntD} {fold : Bool} {space : Int} (hv : VolAt w vb v fold space) (hr : RowAt w v L) (hl : L.length ≤ 120) (i : Nat) (hi : i < L.length) :
    Calls Tryz.prog 129 #[.pointer (some ⟨vb, 0, none⟩), .int .i64 i] w fun r w' => ∃ v', r = .returned v' ∧ w'.ownsRow w.heap.size 54 5 v' (L.eraseIdx i).length (flatE (L.eraseIdx i)) ∧ Below w.heap.size w w' := by
  cases hr with
  | nil => simp at hi
  | row b off cap l hlb hc hm h =>
    rw [eraseIdx_take]
    have HV := hidD hv
    have hvlt := hv.lt
    have c0 := hv.c0
    obtain ⟨i1, hi1⟩ : ∃ i1, i1 = i + 1 := ⟨_, rfl⟩
    rw [← hi1]
    have H3 := hidD (concat2 w _ _ _ _ (RowAt.take hlb hc hm h i (by omega)) (RowAt.dropIf hlb hc hm h i1 (by omega)) (by simp; omega))
    have em : (i : Int) + 1 = (i1 : Int) := by omega
    have hic1 : i1 ≤ cap := by omega
    have hil1 : i1 ≤ L.length := by omega
    have hicz1 : (i1 : Int) ≤ (cap : Int) := by omega
    have hicl1 : (i1 : Int) ≤ (L.length : Int) := by omega
    have hw : IntKind.i64.wrap (i1 : Int) = (i1 : Int) := by rw [IntKind.wrap_i64]; omega
    have HI1 := hidD hi1
    clear hi1
    have hic : i ≤ cap := by omega
    have hicz : (i : Int) ≤ (cap : Int) := by omega
    clear hv
    by_cases he : cap = i1
    · rw [if_pos he] at H3
      subst he
      simp only [Nat.sub_self, show L.length - cap = 0 by omega] at H3
      go_enter Tryz.func129, Tryz.ntmps129
      go_wp2
      go_region_held (fun u => u.cell? ⟨vb, 0, none⟩ = some (.slice (some ⟨b, off, none⟩) L.length cap)) (go_keep) (first | (go_at_call 144; refine (H3.out).mono ?_; rintro r w3 ⟨v3, rfl, hown3, hb3⟩; obtain ⟨a3, m3, c3, rfl⟩ := own_shape hown3; have fv := (HV.out.below hb3 hvlt).c0))
      all_goals go_wp2
      all_goals go_ret
      all_goals exact ⟨_, rfl, hown3, hb3⟩
    · rw [if_neg he] at H3
      go_enter Tryz.func129, Tryz.ntmps129
      go_wp2
      go_region_held (fun u => u.cell? ⟨vb, 0, none⟩ = some (.slice (some ⟨b, off, none⟩) L.length cap)) (go_keep) (first | (go_at_call 144; refine (H3.out).mono ?_; rintro r w3 ⟨v3, rfl, hown3, hb3⟩; obtain ⟨a3, m3, c3, rfl⟩ := own_shape hown3; have fv := (HV.out.below hb3 hvlt).c0))
      all_goals go_wp2
      all_goals go_ret
      all_goals exact ⟨_, rfl, hown3, hb3⟩

def SizesOk (L : List EntD) : Prop := ∀ k, k ≤ L.length → 0 ≤ usedL (L.take k) ∧ usedL (L.take k) ≤ 1000000000
theorem vsizes {w : World} {v : Value} {L : List EntD} (hr : RowAt w v L) (hl : L.length ≤ 120) (hz : SizesOk L) : ∀ u : World, Below w.heap.size w u → Calls Tryz.prog 31 #[v] u fun e u' => e = .returned (.int .i64 (usedL L)) ∧ Below u.heap.size u u' := by
  intro u hu
  cases hr with
  | nil => exact (sizes_nil u).mono (by rintro e w' ⟨rfl, rfl⟩; exact ⟨rfl, Below.refl _ _⟩)
  | row b off cap l hlt hc hm h => exact sizes_row b off cap L u (by omega) hz (by have := hu.size; omega) (h.below hu hlt)

set_option maxHeartbeats 2000000 in
theorem vfilled {w : World} {vb : Nat} {v : Value} {L : List EntD} {fold : Bool} {space : Int} (hv : VolAt w vb v fold space) (hr : RowAt w v L) (hl : L.length ≤ 120) (hs : ∀ o ∈ L, o.small) (hsrt : Srt L) (hz : SizesOk L) (hsp : 0 ≤ space) (hsp2 : space ≤ 9223372036854775807) (e : EntD) (hes : e.small) (hne : ∀ x ∈ L, x.pl ≠ e.pl) :
    Calls Tryz.prog 131 #[.pointer (some ⟨vb, 0, none⟩), .agg #[.string e.path, .bool e.dir, .int .i64 e.id, .int .i64 e.size, .int .i64 e.mode]] w fun r w' => Below w.heap.size w w' ∧ (if space - usedL L < e.size then r = .returned (.tuple #[.slice none 0 0, .int .i64 11]) else ∃ v', r = .returned (.tuple #[v', .int .i64 0]) ∧ w'.ownsRow w.heap.size 54 5 v' (insL e L).length (flatE (insL e L))) := by
  have st := Eb.start w e
  have ST := hidD st
  have HZ := hidD (vsizes hr hl hz)
  have HW : Hid (∀ u : World, Below w.heap.size w u → Calls Tryz.prog 126 #[.pointer (some ⟨vb, 0, none⟩), .agg #[.string e.path, .bool e.dir, .int .i64 e.id, .int .i64 e.size, .int .i64 e.mode]] u fun r w' => ∃ v', r = .returned v' ∧ w'.ownsRow u.heap.size 54 5 v' (insL e L).length (flatE (insL e L)) ∧ Below u.heap.size u w') := fun u hu => vwith (hv.below hu hv.lt) (hr.below hu (Nat.le_refl _)) hl hs hsrt e hes hne
  have HV := hidD hv
  have hvlt := hv.lt
  have hu0 : 0 ≤ usedL L ∧ usedL L ≤ 1000000000 := by have := hz L.length (Nat.le_refl _); rwa [List.take_length] at this
  obtain ⟨hu1, hu2⟩ := hu0
  have c0 : (w.alloc (.cells e.cells.toArray 54)).cell? ⟨vb, 0, none⟩ = some v := (hv.below st.bel hv.lt).c0
  have c2 : (w.alloc (.cells e.cells.toArray 54)).cell? ⟨vb, 2, none⟩ = some (.int .i64 space) := (hv.below st.bel hv.lt).c2
  obtain ⟨a, c, rfl⟩ := hr.val
  clear hv hr hs hsrt hz hne
  generalize L.length = n at *
  generalize usedL L = us at *
  generalize insL e L = R at *
  have k3 := st.cell 3
  simp [EntD.cells] at k3 c0 c2
  clear st
  have hw : IntKind.i64.wrap (space - us) = space - us := by rw [IntKind.wrap_i64]; omega
  by_cases hf : space - us < e.size
  · simp only [hf, ↓reduceIte]
    go_enter Tryz.func131, Tryz.ntmps131
    go_wp2
    go_region_held (fun u => u.cell? ⟨vb, 0, none⟩ = some (.slice a n c) ∧ u.cell? ⟨vb, 2, none⟩ = some (.int .i64 space) ∧ u.cell? ⟨w.heap.size, 3, none⟩ = some (.int .i64 e.size)) (go_keep) (first | (go_at_call 31; refine (HZ.out _ (ST.out.drewN 1).bel).mono ?_; rintro r w1 ⟨rfl, hb1⟩; have s2 := (ST.out.drewN 1).below hb1; have d3 := s2.cell 3; simp [EntD.cells] at d3; have dv := (HV.out.below s2.bel hvlt).c0; have dw := (HV.out.below s2.bel hvlt).c2))
    all_goals go_wp2
    all_goals go_ret2
    all_goals exact ⟨s2.bel, rfl⟩
  · simp only [hf, ↓reduceIte]
    go_enter Tryz.func131, Tryz.ntmps131
    go_wp2
    go_region_held (fun u => u.cell? ⟨vb, 0, none⟩ = some (.slice a n c) ∧ u.cell? ⟨vb, 2, none⟩ = some (.int .i64 space) ∧ u.cell? ⟨w.heap.size, 3, none⟩ = some (.int .i64 e.size)) (go_keep) (first | (go_at_call 31; refine (HZ.out _ (ST.out.drewN 1).bel).mono ?_; rintro r w1 ⟨rfl, hb1⟩; have s2 := (ST.out.drewN 1).below hb1; have d3 := s2.cell 3; simp [EntD.cells] at d3; have dv := (HV.out.below s2.bel hvlt).c0; have dw := (HV.out.below s2.bel hvlt).c2))
    all_goals (have d0 := s2.cell 0; have d1 := s2.cell 1; have d2 := s2.cell 2; have d4 := s2.cell 4; simp [EntD.cells] at d0 d1 d2 d4)
    all_goals go_wp2_with (go_at_call 126; refine (HW.out _ s2.bel).mono ?_; rintro r w3 ⟨v3, rfl, hown3, hb3⟩; obtain ⟨a3, m3, c3, rfl⟩ := own_shape hown3)
    all_goals go_ret2
    all_goals exact ⟨(s2.below hb3).bel, _, rfl, own_mono hown3 s2.bel.size⟩
end Go.Proofs.YtemkpollilhmjaaGreatDoor

/- A volume in memory: mkdir, unlink, write. -/
namespace Go.Proofs.YtemkpollilhmjaaGreatDoor
open Go.RowKit
set_option linter.unusedVariables false
set_option linter.unusedSimpArgs false

/-- What an operation answers: an error and nothing, or the entries as they are behind it. -/
def Ans (B : Nat) (x : Except Int (List EntD)) (r : Ending) (w : World) : Prop :=
  match x with
  | .error n => r = .returned (.tuple #[.slice none 0 0, .int .i64 n])
  | .ok M => ∃ v, r = .returned (.tuple #[v, .int .i64 0]) ∧ w.ownsRow B 54 5 v M.length (flatE M)

/-- A volume in memory, and what is known of its tree. -/
structure Vm (w : World) (vb : Nat) (v : Value) (L : List EntD) (fold : Bool) (space : Int) : Prop where
  vol : VolAt w vb v fold space
  row : RowAt w v L
  len : L.length ≤ 120
  small : ∀ o ∈ L, o.small
  srt : Srt L
  sizes : SizesOk L
  sp0 : 0 ≤ space
  sp1 : space ≤ 9223372036854775807
theorem Vm.below {w w' : World} {vb : Nat} {v : Value} {L : List EntD} {fold : Bool} {space : Int} (h : Vm w vb v L fold space) (hb : Below w.heap.size w w') : Vm w' vb v L fold space :=
  ⟨h.vol.below hb h.vol.lt, h.row.below hb (Nat.le_refl _), h.len, h.small, h.srt, h.sizes, h.sp0, h.sp1⟩
theorem Vm.smallL {w : World} {vb : Nat} {v : Value} {L : List EntD} {fold : Bool} {space : Int} (h : Vm w vb v L fold space) : SmallL L := ⟨by have := h.len; omega, h.small⟩

/-- An operation in a box of its own, and nothing else. -/
structure Ob (w : World) (o : OpD) (u : World) : Prop where
  bel : Below w.heap.size w u
  box : u.heap[w.heap.size]? = some (.cells o.cells.toArray 82 (0, 0))
theorem Ob.start (w : World) (o : OpD) : Ob w o (w.alloc (.cells o.cells.toArray 82)) := ⟨(Below.refl _ _).alloc (Nat.le_refl _) _, heap_alloc_new w _⟩
theorem Ob.below {w u u' : World} {o : OpD} (h : Ob w o u) (hb : Below u.heap.size u u') : Ob w o u' :=
  ⟨h.bel.trans (hb.mono h.bel.size), (hb.block _ (Array.getElem?_eq_some_iff.1 h.box).1).trans h.box⟩
theorem Ob.cell {w u : World} {o : OpD} (h : Ob w o u) (j : Nat) : u.cell? ⟨w.heap.size, j, none⟩ = o.cells[j]? := by
  rw [Lib.cell_of_heap h.box]; simp
theorem Ob.lt {w u : World} {o : OpD} (h : Ob w o u) : w.heap.size < u.heap.size := (Array.getElem?_eq_some_iff.1 h.box).1
theorem Ob.drewN {w u : World} {o : OpD} (h : Ob w o u) (n : Nat) : Ob w o (u.drewN n) := ⟨h.bel.trans ⟨rfl, rfl, rfl, Nat.le_refl _, fun _ _ => rfl⟩, h.box⟩

theorem free_cases (fold : Bool) (L : List EntD) (p : ByteArray) :
    ((L.any fun x => sameB fold x.pl p.data.toList) = true ∧ freeAns fold L p = (⟨#[]⟩, 8)) ∨
    ((L.any fun x => sameB fold x.pl p.data.toList) = false ∧ placeL fold L p.data.toList = none ∧ freeAns fold L p = (⟨#[]⟩, 2)) ∨
    ((L.any fun x => sameB fold x.pl p.data.toList) = false ∧ (∃ t, placeL fold L p.data.toList = some t) ∧ 120 ≤ L.length ∧ freeAns fold L p = (⟨#[]⟩, 5)) ∨
    ((L.any fun x => sameB fold x.pl p.data.toList) = false ∧ ¬ 120 ≤ L.length ∧ ∃ t, placeL fold L p.data.toList = some t ∧ freeAns fold L p = (ofL t, 0)) := by
  unfold freeAns
  have hE : L.any (isAt fold p.data.toList) = L.any fun x => sameB fold x.pl p.data.toList := rfl
  rw [hE]
  cases ha : L.any fun x => sameB fold x.pl p.data.toList
  · right
    simp only [Bool.false_eq_true, if_false]
    cases hp : placeL fold L p.data.toList with
    | none =>
      left
      have : plAns fold L p = (⟨#[]⟩, 2) := by simp only [plAns, hp]
      rw [this]; simp
    | some t =>
      right
      have : plAns fold L p = (ofL t, 0) := by simp only [plAns, hp]
      rw [this]
      by_cases hn : 120 ≤ L.length
      · left; simp [hn]
      · right; simp [hn]
  · left; simp
theorem ofL_small {t : BL} (h : t.length ≤ 1500000) : (ofL t).size ≤ 1500000 := by
  have : (ofL t).size = t.length := by simp [ofL, ByteArray.size]
  omega
theorem free_ne {fold : Bool} {L : List EntD} {p t : BL} (h : (L.any fun x => sameB fold x.pl p) = false) (hp : placeL fold L p = some t) : ∀ x ∈ L, x.pl ≠ t := by
  intro x hx e
  have := List.any_eq_false.1 h x hx
  rw [e] at this
  exact this (place_same hp)

set_option maxHeartbeats 2000000 in
theorem vmkdir {w : World} {vb : Nat} {v : Value} {L : List EntD} {fold : Bool} {space : Int} (V : Vm w vb v L fold space) (o : OpD) (ho : o.small) (hp : ∀ t, placeL fold L o.pl = some t → t.length ≤ 1500000) :
    Calls Tryz.prog 102 #[.pointer (some ⟨vb, 0, none⟩), o.val] w fun r w' => Ans w.heap.size (mkL fold space L ⟨o.path, true, 0, 0, o.mode⟩) r w' ∧ Below w.heap.size w w' := by
  have ST := hidD (Ob.start w o)
  have HF : Hid (∀ u : World, Below w.heap.size w u → Calls Tryz.prog 125 #[.pointer (some ⟨vb, 0, none⟩), .string o.path] u fun e w' => e = .returned (.tuple #[.string (freeAns fold L o.path).1, .int .i64 (freeAns fold L o.path).2]) ∧ Below u.heap.size u w') := fun u hu => vfree (V.below hu).vol (V.below hu).row V.smallL o.path ho.1
  have k1 := ST.out.cell 1
  simp [OpD.cells] at k1
  rcases free_cases fold L o.path with ⟨ha, hA⟩ | ⟨ha, hpl, hA⟩ | ⟨ha, ⟨t, hpl⟩, hn, hA⟩ | ⟨ha, hn, t, hpl, hA⟩
  · have hM : mkL fold space L ⟨o.path, true, 0, 0, o.mode⟩ = .error 8 := by unfold mkL; exact if_pos ha
    rw [hM]
    rw [hA] at HF
    unfold OpD.val Ans
    go_enter Tryz.func102, Tryz.ntmps102
    go_wp2_with (go_at_call 125; refine (HF.out _ ST.out.bel).mono ?_; rintro r w1 ⟨rfl, hb1⟩)
    go_ret2
    exact ⟨rfl, (ST.out.below hb1).bel⟩
  · have hM : mkL fold space L ⟨o.path, true, 0, 0, o.mode⟩ = .error 2 := by
      unfold mkL
      rw [show (EntD.pl ⟨o.path, true, 0, 0, o.mode⟩) = o.path.data.toList from rfl, ha, if_neg (by simp), hpl]
    rw [hM]
    rw [hA] at HF
    unfold OpD.val Ans
    go_enter Tryz.func102, Tryz.ntmps102
    go_wp2_with (go_at_call 125; refine (HF.out _ ST.out.bel).mono ?_; rintro r w1 ⟨rfl, hb1⟩)
    go_ret2
    exact ⟨rfl, (ST.out.below hb1).bel⟩
  · have hM : mkL fold space L ⟨o.path, true, 0, 0, o.mode⟩ = .error 5 := by
      unfold mkL
      rw [show (EntD.pl ⟨o.path, true, 0, 0, o.mode⟩) = o.path.data.toList from rfl, ha, if_neg (by simp), hpl]
      simp only [hn, if_true]
    rw [hM]
    rw [hA] at HF
    unfold OpD.val Ans
    go_enter Tryz.func102, Tryz.ntmps102
    go_wp2_with (go_at_call 125; refine (HF.out _ ST.out.bel).mono ?_; rintro r w1 ⟨rfl, hb1⟩)
    go_ret2
    exact ⟨rfl, (ST.out.below hb1).bel⟩
  · have hM : mkL fold space L ⟨o.path, true, 0, 0, o.mode⟩ = .ok (insL ⟨ofL t, true, 0, 0, o.mode⟩ L) := by
      unfold mkL
      rw [show (EntD.pl ⟨o.path, true, 0, 0, o.mode⟩) = o.path.data.toList from rfl, ha, if_neg (by simp), hpl]
      simp only [hn, if_false, Bool.not_true, Bool.false_and, Bool.false_eq_true]
      rfl
    rw [hM]
    rw [hA] at HF
    have HW : Hid (∀ u : World, Below w.heap.size w u → Calls Tryz.prog 126 #[.pointer (some ⟨vb, 0, none⟩), .agg #[.string (ofL t), .bool true, .int .i64 0, .int .i64 0, .int .i64 o.mode]] u fun r w' => ∃ v', r = .returned v' ∧ w'.ownsRow u.heap.size 54 5 v' (insL ⟨ofL t, true, 0, 0, o.mode⟩ L).length (flatE (insL ⟨ofL t, true, 0, 0, o.mode⟩ L)) ∧ Below u.heap.size u w') := fun u hu => vwith (V.below hu).vol (V.below hu).row V.len V.small V.srt ⟨ofL t, true, 0, 0, o.mode⟩ (ofL_small (hp t hpl)) (by have := free_ne ha hpl; simpa [EntD.pl, ofL] using this)
    generalize insL ⟨ofL t, true, 0, 0, o.mode⟩ L = M at *
    generalize ofL t = pt at *
    unfold OpD.val Ans
    go_enter Tryz.func102, Tryz.ntmps102
    go_wp2_with (first | (go_at_call 125; refine (HF.out _ ST.out.bel).mono ?_; rintro r w1 ⟨rfl, hb1⟩; have s1 := ST.out.below hb1; have d5 := s1.cell 5; simp [OpD.cells] at d5) | (go_at_call 126; refine (HW.out _ s1.bel).mono ?_; rintro r w3 ⟨v3, rfl, hown3, hb3⟩; obtain ⟨a3, m3, c3, rfl⟩ := own_shape hown3))
    go_ret2
    exact ⟨⟨_, rfl, own_mono hown3 s1.bel.size⟩, (s1.below hb3).bel⟩

set_option maxHeartbeats 2000000 in
theorem vunlink {w : World} {vb : Nat} {v : Value} {L : List EntD} {fold : Bool} {space : Int} (V : Vm w vb v L fold space) (o : OpD) (ho : o.small) :
    Calls Tryz.prog 104 #[.pointer (some ⟨vb, 0, none⟩), o.val] w fun r w' => Ans w.heap.size (match L[atI fold L o.pl]? with | none => .error 9 | some e => if e.dir then .error 10 else .ok (L.eraseIdx (atI fold L o.pl))) r w' ∧ Below w.heap.size w w' := by
  have ST := hidD (Ob.start w o)
  have HF := hidD (fun (u : World) (hu : Below w.heap.size w u) => vfile (V.below hu).vol (V.below hu).row V.smallL o.path ho.1)
  have k1 := ST.out.cell 1
  simp [OpD.cells] at k1
  rw [show o.path.data.toList = o.pl from rfl] at HF
  rcases fstI_at fold L o.pl with ⟨hi, hf⟩ | ⟨hlt, hi, hf⟩
  · rw [hf] at HF ⊢
    unfold OpD.val Ans
    go_enter Tryz.func104, Tryz.ntmps104
    go_wp2_with (go_at_call 130; refine (HF.out _ ST.out.bel).mono ?_; rintro r w1 ⟨rfl, hb1⟩)
    go_ret2
    exact ⟨rfl, (ST.out.below hb1).bel⟩
  · rw [hf] at HF ⊢
    have HW := hidD (fun (u : World) (hu : Below w.heap.size w u) => vwithout (V.below hu).vol (V.below hu).row V.len (atI fold L o.pl) hlt)
    generalize atI fold L o.pl = i at *
    generalize hE : L.eraseIdx i = M at *
    generalize L[i] = e at *
    clear hE hf hi
    cases hd : e.dir
    · simp only [hd, Bool.false_eq_true, if_false] at HF ⊢
      unfold OpD.val Ans
      go_enter Tryz.func104, Tryz.ntmps104
      go_wp2_with (first | (go_at_call 130; refine (HF.out _ ST.out.bel).mono ?_; rintro r w1 ⟨rfl, hb1⟩; have s1 := ST.out.below hb1) | (go_at_call 129; refine (HW.out _ s1.bel).mono ?_; rintro r w3 ⟨v3, rfl, hown3, hb3⟩; obtain ⟨a3, m3, c3, rfl⟩ := own_shape hown3))
      go_ret2
      exact ⟨⟨_, rfl, own_mono hown3 s1.bel.size⟩, (s1.below hb3).bel⟩
    · simp only [hd, if_true] at HF ⊢
      unfold OpD.val Ans
      go_enter Tryz.func104, Tryz.ntmps104
      go_wp2_with (go_at_call 130; refine (HF.out _ ST.out.bel).mono ?_; rintro r w1 ⟨rfl, hb1⟩)
      go_ret2
      exact ⟨rfl, (ST.out.below hb1).bel⟩
end Go.Proofs.YtemkpollilhmjaaGreatDoor

/- The library's Clone at entries. -/
namespace Go.Proofs.YtemkpollilhmjaaGreatDoor
open Go.RowKit
set_option linter.unusedVariables false
set_option linter.unusedSimpArgs false

theorem own_empty (w : World) : (w.alloc (.cells #[] 54)).ownsRow w.heap.size 54 5 (.slice (some ⟨w.heap.size, 0, none⟩) 0 0) 0 [] :=
  ⟨rfl, .inr ⟨w.heap.size, 0, #[], rfl, Nat.le_refl _, heap_alloc_new w _, Nat.le_refl _, by unfold maxLen; omega, rfl, rfl⟩⟩

set_option maxHeartbeats 2000000 in
set_option maxRecDepth 100000 in
theorem clone_row (b off cap : Nat) (L : List EntD) (w : World) (hl : L.length ≤ 1000) (hb : b < w.heap.size) (hc : EntsAt w b off L) :
    Calls Tryz.prog 32 #[.slice (some ⟨b, off, none⟩) L.length cap] w fun e w' => ∃ v, e = .returned v ∧ w'.ownsRow w.heap.size 54 5 v L.length (flatE L) ∧ Below w.heap.size w w' := by
  obtain ⟨i0, hi, hz0, hz1, hz2⟩ := info_parts info54
  have hneq := fun (u : World) (a : Option Addr) (n c : Nat) => Lib.run_eql_slice_nil (P := Tryz.prog) u 22 54 a n c 0 0 Tryz.underlying22
  have hb1 : Below w.heap.size w (w.alloc (.cells #[] 54)) := (Below.refl _ _).alloc (Nat.le_refl _) _
  have HE := hidD (flatE_at (hc.below hb1 hb))
  have HO := hidD (own_empty w)
  have HB := hidD hb1
  clear hc hb1
  go_enter Tryz.func32, Tryz.ntmps32
  go_wp2_with (at_builtin; refine wpList_append_own _ rfl _ _ 22 rfl w.heap.size 54 i0 _ 5 48 Tryz.underlying22 hi hz0 hz1 hz2 rfl (by decide) _ _ _ rfl HO.out ⟨b, off, none⟩ L.length cap (flatE L) rfl (flatE_length L) HE.out (flatE_one L) (by unfold maxLen; omega) (by omega) HB.out.size ?_; intro v2 w2 hown2 hg2 _)
  go_ret
  refine ⟨v2, rfl, ?_, HB.out.grown hg2 HB.out.size (fun q hq => (HO.out.lt q hq).1)⟩
  simpa using hown2
set_option maxHeartbeats 1000000 in
theorem clone_nil (w : World) : Calls Tryz.prog 32 #[.slice none 0 0] w fun e w' => e = .returned (.slice none 0 0) ∧ w' = w := by
  have hneq := fun (u : World) (a : Option Addr) (n c : Nat) => Lib.run_eql_slice_nil (P := Tryz.prog) u 22 54 a n c 0 0 Tryz.underlying22
  go_enter Tryz.func32, Tryz.ntmps32
  go_wp2
  go_ret
  exact ⟨rfl, rfl⟩
end Go.Proofs.YtemkpollilhmjaaGreatDoor

/- A volume in memory: chmod. -/
namespace Go.Proofs.YtemkpollilhmjaaGreatDoor
open Go.RowKit
set_option linter.unusedVariables false
set_option linter.unusedSimpArgs false

theorem flatE_set (L : List EntD) (m : Int) : ∀ (i : Nat) (h : i < L.length), flatE (L.set i { L[i] with mode := m }) = (flatE L).set (i * 5 + 4) (.int .i64 m) := by
  induction L with
  | nil => intro i h; simp at h
  | cons o L ih =>
    intro i h
    cases i with
    | zero => simp [flatE, EntD.cells]
    | succ i =>
      have h' : i < L.length := by simpa using h
      have := ih i h'
      simp only [List.set_cons_succ, List.getElem_cons_succ]
      simp only [flatE, List.map_cons, List.flatten_cons] at *
      rw [this, List.set_append_right _ _ (by simp [EntD.cells]; omega)]
      congr 2
      simp [EntD.cells]; omega

theorem own_some {w : World} {B : Nat} {v : Value} {n : Nat} {xs : List Value} (h : w.ownsRow B 54 5 v n xs) (hn : 0 < n) : ∃ g c, v = .slice (some ⟨g, 0, none⟩) n c := by
  rcases h.2 with ⟨rfl, rfl⟩ | ⟨g, cap, cur, rfl, _⟩
  · omega
  · exact ⟨_, _, rfl⟩

set_option maxHeartbeats 2000000 in
theorem vchmod {w : World} {vb : Nat} {v : Value} {L : List EntD} {fold : Bool} {space : Int} (V : Vm w vb v L fold space) (o : OpD) (ho : o.small) :
    Calls Tryz.prog 108 #[.pointer (some ⟨vb, 0, none⟩), o.val] w fun r w' => Ans w.heap.size (match L[atI fold L o.pl]? with | none => .error 9 | some e => .ok (L.set (atI fold L o.pl) { e with mode := o.mode })) r w' ∧ Below w.heap.size w w' := by
  have ST := hidD (Ob.start w o)
  have HF := hidD (fun (u : World) (hu : Below w.heap.size w u) => vfind (V.below hu).vol (V.below hu).row V.smallL o.path ho.1)
  have k1 := ST.out.cell 1
  simp [OpD.cells] at k1
  rw [show o.path.data.toList = o.pl from rfl] at HF
  rcases fstI_at fold L o.pl with ⟨hi, hf⟩ | ⟨hlt, hi, hf⟩
  · rw [hi] at HF
    rw [hf]
    unfold OpD.val Ans
    go_enter Tryz.func108, Tryz.ntmps108
    go_wp2_with (go_at_call 127; refine (HF.out _ ST.out.bel).mono ?_; rintro r w1 ⟨rfl, hb1⟩)
    go_ret2
    exact ⟨rfl, (ST.out.below hb1).bel⟩
  · rw [hi] at HF
    rw [hf]
    have HV := hidD V.vol
    have hvlt := V.vol.lt
    have hll := V.len
    have hrow := V.row
    clear V hi hf
    generalize atI fold L o.pl = i at *
    have HFS := hidD (flatE_set L o.mode i hlt)
    have hls : (L.set i { L[i] with mode := o.mode }).length = L.length := by simp
    cases hrow with
    | nil => simp at hlt
    | row b off cap l hlb hc hm h =>
      have HC := hidD (fun (u : World) (hu : Below w.heap.size w u) => clone_row b off cap L u (by omega) (by have := hu.size; omega) (h.below hu hlb))
      clear h
      unfold OpD.val Ans
      go_enter Tryz.func108, Tryz.ntmps108
      go_wp2_with (first | (go_at_call 127; refine (HF.out _ ST.out.bel).mono ?_; rintro r w1 ⟨rfl, hb1⟩; have s1 := ST.out.below hb1; have c0 := (HV.out.below s1.bel hvlt).c0) | (go_at_call 32; refine (HC.out _ s1.bel).mono ?_; rintro r w2 ⟨v2, rfl, hown2, hb2⟩; have s2 := s1.below hb2; have d5 := s2.cell 5; simp [OpD.cells] at d5; obtain ⟨g, c2, hv2⟩ := own_some hown2 (by omega); subst hv2; have hf4 := hown2.frozenAt (i * 5 + 4); have hc4 : w2.cell? ⟨g, i * 5 + 4, none⟩ = some (.int .i64 L[i].mode) := (hown2.cellAt (i * 5 + 4) (by omega)).trans (flatE_get L i hlt 4 (by omega))))
      go_ret2
      obtain ⟨h1, h2⟩ := hown2.stored (i * 5 + 4) (.int .i64 o.mode)
      refine ⟨⟨_, rfl, ?_⟩, s2.bel.grown h2 s2.bel.size (fun q hq => ?_)⟩
      · rw [List.length_set, HFS.out]
        exact own_mono h1 s1.bel.size
      · have := (hown2.lt q hq).1
        have := s1.bel.size
        omega
end Go.Proofs.YtemkpollilhmjaaGreatDoor

/- A volume in memory: rmdir. -/
namespace Go.Proofs.YtemkpollilhmjaaGreatDoor
open Go.RowKit
set_option linter.unusedVariables false
set_option linter.unusedSimpArgs false

set_option maxHeartbeats 1000000 in
theorem isBelow_any (s a : ByteArray) (fold : Bool) (w : World) (hs : s.size ≤ 1500000) (ha : a.size ≤ 1500000) :
    Calls Tryz.prog 128 #[.string s, .string a, .bool fold] w fun e w' => e = .returned (.bool (belowL fold s.data.toList a.data.toList)) ∧ ∃ n, w' = w.drewN n := by
  have hA : a.data.toList.length = a.size := by simp
  have hS : s.data.toList.length = s.size := by simp
  by_cases hlt : a.size < s.size
  · by_cases hc : ((s[a.size].toNat : Int) == 47) = true
    · have h47 : s[a.size] = 47 := by rw [u8_47] at hc; simpa using hc
      have hg : s.data.toList[a.size]? = some 47 := by
        rw [List.getElem?_eq_getElem (by simpa using hlt)]
        congr 1
      have hv : belowL fold s.data.toList a.data.toList = sameB fold (s.data.toList.take a.size) a.data.toList := by
        unfold belowL
        rw [hA, hS, hg]
        simp [hlt]
      rw [hv]
      go_enter Tryz.func128, Tryz.ntmps128
      go_wp2_with (go_at_call 120; refine (same_any _ _ _ _ (by simp; omega) (by omega)).mono ?_; rintro e w1 ⟨rfl, nq, rfl⟩)
      go_ret
      exact ⟨rfl, nq, rfl⟩
    · simp only [Bool.not_eq_true] at hc
      have h47 : s[a.size] ≠ 47 := by rw [u8_47] at hc; simpa using hc
      have hv : belowL fold s.data.toList a.data.toList = false := by
        unfold belowL
        rw [hA, hS, List.getElem?_eq_getElem (by simpa using hlt)]
        have : (some s.data.toList[a.size] == some (47 : UInt8)) = false := by
          simp only [beq_eq_false_iff_ne, ne_eq, Option.some.injEq]
          exact h47
        rw [this]; simp
      rw [hv]
      go_enter Tryz.func128, Tryz.ntmps128
      go_wp2
      go_ret
      exact ⟨rfl, 0, rfl⟩
  · have hv : belowL fold s.data.toList a.data.toList = false := by
      unfold belowL
      rw [hA, hS]; simp [hlt]
    rw [hv]
    go_enter Tryz.func128, Tryz.ntmps128
    go_wp2
    go_ret
    exact ⟨rfl, 0, rfl⟩

theorem isBelow_bel (s a : ByteArray) (fold : Bool) (w : World) (hs : s.size ≤ 1500000) (ha : a.size ≤ 1500000) :
    Calls Tryz.prog 128 #[.string s, .string a, .bool fold] w fun e w' => e = .returned (.bool (belowL fold s.data.toList a.data.toList)) ∧ Below w.heap.size w w' :=
  (isBelow_any s a fold w hs ha).mono (by rintro e w' ⟨rfl, n, rfl⟩; exact ⟨rfl, below_drewE _ n⟩)

set_option maxHeartbeats 4000000 in
theorem vrmdir {w : World} {vb : Nat} {v : Value} {L : List EntD} {fold : Bool} {space : Int} (V : Vm w vb v L fold space) (o : OpD) (ho : o.small) :
    Calls Tryz.prog 103 #[.pointer (some ⟨vb, 0, none⟩), o.val] w fun r w' => Ans w.heap.size (match L[atI fold L o.pl]? with | none => .error 9 | some e => if e.dir then (if (L.any fun x => belowL false x.pl e.pl) = true then .error 13 else .ok (L.eraseIdx (atI fold L o.pl))) else .error 10) r w' ∧ Below w.heap.size w w' := by
  have ST := hidD (Ob.start w o)
  have HF := hidD (fun (u : World) (hu : Below w.heap.size w u) => vfind (V.below hu).vol (V.below hu).row V.smallL o.path ho.1)
  have k1 := ST.out.cell 1
  simp [OpD.cells] at k1
  rw [show o.path.data.toList = o.pl from rfl] at HF
  rcases fstI_at fold L o.pl with ⟨hi, hf⟩ | ⟨hlt, hi, hf⟩
  · rw [hi] at HF
    rw [hf]
    unfold OpD.val Ans
    go_enter Tryz.func103, Tryz.ntmps103
    go_wp2_with (go_at_call 127; refine (HF.out _ ST.out.bel).mono ?_; rintro r w1 ⟨rfl, hb1⟩)
    go_ret2
    exact ⟨rfl, (ST.out.below hb1).bel⟩
  · rw [hi] at HF
    rw [hf]
    have HW := hidD (fun (u : World) (hu : Below w.heap.size w u) => vwithout (V.below hu).vol (V.below hu).row V.len (atI fold L o.pl) hlt)
    have HN := next_below V.srt (atI fold L o.pl) hlt
    have HV := hidD V.vol
    have hvlt := V.vol.lt
    have hll := V.len
    have hsmall := hidD V.small
    have hrow := V.row
    clear V hi hf
    generalize atI fold L o.pl = i at *
    cases hrow with
    | nil => simp at hlt
    | row b off cap l hlb hc hm h =>
      have HE : Hid (∀ u : World, Below w.heap.size w u → u.cell? ⟨b, off + i * 5 + 1, none⟩ = some (.bool L[i].dir) ∧ u.cell? ⟨b, off + i * 5, none⟩ = some (.string L[i].path)) := fun u hu => ⟨(h.below hu hlb) i hlt 1 _ rfl, (h.below hu hlb) i hlt 0 _ rfl⟩
      obtain ⟨i1, hi1⟩ : ∃ i1, i1 = i + 1 := ⟨_, rfl⟩
      have em : (i : Int) + 1 = (i1 : Int) := by omega
      have hw : IntKind.i64.wrap (i1 : Int) = (i1 : Int) := by rw [IntKind.wrap_i64]; omega
      have hso : L[i].path.size ≤ 1500000 := hsmall.out _ (List.getElem_mem hlt)
      cases hd : L[i].dir
      · rw [hd] at HE
        simp only [hd, Bool.false_eq_true, if_false]
        unfold OpD.val Ans
        go_enter Tryz.func103, Tryz.ntmps103
        go_wp2_with (go_at_call 127; refine (HF.out _ ST.out.bel).mono ?_; rintro r w1 ⟨rfl, hb1⟩; have s1 := ST.out.below hb1; have c0 := (HV.out.below s1.bel hvlt).c0; obtain ⟨c1, c2⟩ := HE.out _ s1.bel)
        go_ret2
        exact ⟨rfl, s1.bel⟩
      · rw [hd] at HE
        simp only [hd, if_true]
        by_cases hn : i1 < L.length
        · have hn' : i + 1 < L.length := by omega
          rw [dif_pos hn'] at HN
          have HE2 : Hid (∀ u : World, Below w.heap.size w u → u.cell? ⟨b, off + i1 * 5, none⟩ = some (.string L[i1].path)) := fun u hu => (h.below hu hlb) i1 hn 0 _ rfl
          have hso2 : L[i1].path.size ≤ 1500000 := hsmall.out _ (List.getElem_mem hn)
          have HN2 : (L.any fun x => belowL false x.pl L[i].pl) = belowL false L[i1].path.data.toList L[i].path.data.toList := by
            rw [HN]
            have : L[i + 1] = L[i1] := by congr 1; exact hi1.symm
            rw [this]; rfl
          rw [HN2]
          clear HN HN2 h hsmall hi1
          generalize L[i].path = p at *
          generalize L[i1].path = q at *
          generalize hbl : belowL false q.data.toList p.data.toList = bl at *
          generalize L.eraseIdx i = M at *
          have HBL := hidD hbl
          clear hbl
          cases bl
          all_goals
            simp only [Bool.false_eq_true, if_false, if_true]
            unfold OpD.val Ans
            go_enter Tryz.func103, Tryz.ntmps103
            go_wp2_with (go_at_call 127; refine (HF.out _ ST.out.bel).mono ?_; rintro r w1 ⟨rfl, hb1⟩; have s1 := ST.out.below hb1; have c0 := (HV.out.below s1.bel hvlt).c0; obtain ⟨c1, c2⟩ := HE.out _ s1.bel; have c3 := HE2.out _ s1.bel)
            go_region_held (fun u => u.cell? ⟨vb, 0, none⟩ = some (.slice (some ⟨b, off, none⟩) L.length cap) ∧ u.cell? ⟨b, off + i * 5, none⟩ = some (.string p) ∧ u.cell? ⟨b, off + i1 * 5, none⟩ = some (.string q)) (go_keep) (first | (go_at_call 128; refine (isBelow_bel q p false _ hso2 hso).mono ?_; rintro r w2 ⟨rfl, hb2⟩; rw [HBL.out]; have s2 := (s1.drewN 1).below hb2; have f0 := (HV.out.below s2.bel hvlt).c0; obtain ⟨f1, f2⟩ := HE.out _ s2.bel; have f3 := HE2.out _ s2.bel))
          · all_goals go_wp2_with (go_at_call 129; refine (HW.out _ s2.bel).mono ?_; rintro r w3 ⟨v3, rfl, hown3, hb3⟩; obtain ⟨a3, m3, c3, rfl⟩ := own_shape hown3)
            all_goals go_ret2
            all_goals exact ⟨⟨_, rfl, own_mono hown3 s2.bel.size⟩, (s2.below hb3).bel⟩
          · all_goals go_wp2
            all_goals go_ret2
            all_goals exact ⟨rfl, s2.bel⟩
        · have hn' : ¬ i + 1 < L.length := by omega
          rw [dif_neg hn'] at HN
          rw [HN]
          simp only [Bool.false_eq_true, if_false]
          clear HN h hsmall hi1
          generalize L[i].path = p at *
          generalize L.eraseIdx i = M at *
          unfold OpD.val Ans
          go_enter Tryz.func103, Tryz.ntmps103
          go_wp2_with (go_at_call 127; refine (HF.out _ ST.out.bel).mono ?_; rintro r w1 ⟨rfl, hb1⟩; have s1 := ST.out.below hb1; have c0 := (HV.out.below s1.bel hvlt).c0; obtain ⟨c1, c2⟩ := HE.out _ s1.bel)
          go_quiet (fail)
          have s2 := s1.drewN nq
          generalize w1.drewN nq = u2 at *
          go_wp2_with (go_at_call 129; refine (HW.out _ s2.bel).mono ?_; rintro r w3 ⟨v3, rfl, hown3, hb3⟩; obtain ⟨a3, m3, c3, rfl⟩ := own_shape hown3)
          go_ret2
          exact ⟨⟨_, rfl, own_mono hown3 s2.bel.size⟩, (s2.below hb3).bel⟩
end Go.Proofs.YtemkpollilhmjaaGreatDoor

/- Plain: what a checked tree gives for the walks: small paths, small sizes, one size for each id. -/
namespace Go.Proofs.YtemkpollilhmjaaGreatDoor
open Go.RowKit
set_option linter.unusedVariables false
set_option linter.unusedSimpArgs false

theorem used_small (L : List EntD) (h : ∀ o ∈ L, fieldsB o = true) : 0 ≤ usedL L ∧ usedL L ≤ 100 * L.length := by
  induction L with
  | nil => simp [usedL]
  | cons o L ih =>
    have h1 := ih fun x hx => h x (List.mem_cons_of_mem _ hx)
    obtain ⟨_, _, h2⟩ := fieldsB_true o (h o List.mem_cons_self)
    simp only [usedL, List.length_cons]
    rcases h2 with ⟨_, _, h3⟩ | ⟨_, _, _, h3, h4⟩ <;> omega
theorem VolOk.sizesOk {fold : Bool} {L : List EntD} (V : VolOk fold L) : SizesOk L := by
  intro k hk
  have h := used_small (L.take k) fun o ho => V.fields o (List.mem_of_mem_take ho)
  have h1 := V.few
  have h2 : (L.take k).length ≤ 120 := by simp; omega
  omega
theorem VolOk.other {fold : Bool} {L : List EntD} (V : VolOk fold L) (id size : Int) (hid : 1 ≤ id) (e : EntD) (h1 : e.id = id) (h2 : e.size = size) : otherB L e = (L.any fun x => !x.dir && decide (x.id = id) && decide (x.size ≠ size)) := by
  subst h1 h2
  unfold otherB
  have h : ∀ x ∈ L, (decide (x.id = e.id) && decide (x.size ≠ e.size)) = (!x.dir && decide (x.id = e.id) && decide (x.size ≠ e.size)) := by
    intro x hx
    obtain ⟨_, _, h3⟩ := fieldsB_true x (V.fields x hx)
    rcases h3 with ⟨d, i, _⟩ | ⟨d, _⟩
    · have : decide (x.id = e.id) = false := by rw [decide_eq_false_iff_not]; omega
      rw [this, d]; simp
    · rw [d]; simp
  rw [Bool.eq_iff_iff, List.any_eq_true, List.any_eq_true]
  exact ⟨fun ⟨x, hx, hp⟩ => ⟨x, hx, by rw [← h x hx]; exact hp⟩, fun ⟨x, hx, hp⟩ => ⟨x, hx, by rw [h x hx]; exact hp⟩⟩
theorem VolOk.alike {fold : Bool} {L : List EntD} (V : VolOk fold L) (e : EntD) (he : e ∈ L) (hd : e.dir = false) : (L.any fun x => !x.dir && decide (x.id = e.id) && decide (x.size ≠ e.size)) = false := by
  rw [List.any_eq_false]
  intro x hx h
  simp only [Bool.and_eq_true, Bool.not_eq_true', decide_eq_true_eq] at h
  exact h.2 (V.sizes x hx e he h.1.1 hd h.1.2)

theorem spl_len (n : Nat) : ∀ l : BL, l.length ≤ n → l.length + 1 = ((spl l).map (·.length + 1)).sum := by
  induction n with
  | zero =>
    intro l hl
    obtain rfl : l = [] := List.eq_nil_of_length_eq_zero (by omega)
    rfl
  | succ n ih =>
    intro l hl
    rcases last_cut l with h | ⟨a, b, rfl, hb⟩
    · rw [spl_none l h]; simp
    · simp only [List.length_append, List.length_cons] at hl
      rw [spl_split, List.map_append, List.sum_append, ← ih a (by omega), ← ih b (by omega)]
      simp; omega
theorem sum_le (c : Nat) (ps : List BL) (h : ∀ p ∈ ps, p.length ≤ c) : (ps.map (·.length + 1)).sum ≤ ps.length * (c + 1) := by
  induction ps with
  | nil => simp
  | cons p ps ih =>
    have h1 := ih fun x hx => h x (List.mem_cons_of_mem _ hx)
    have h2 := h p List.mem_cons_self
    simp only [List.map_cons, List.sum_cons, List.length_cons, Nat.add_mul, Nat.one_mul]
    simp only [Nat.mul_add, Nat.mul_one] at *
    omega

theorem path_len {l : BL} (h : pathL l = true) : l.length ≤ 60 := by
  unfold pathL at h
  rw [Bool.and_eq_true, decide_eq_true_eq, List.all_eq_true] at h
  have h1 := spl_len l.length l (Nat.le_refl _)
  have h2 := sum_le 8 (spl l) fun p hp => by
    have := h.2 p hp
    simp only [nmL, isNm, Bool.and_eq_true, decide_eq_true_eq] at this
    have h3 := this.1.1.1.2
    simpa [ByteArray.size] using h3
  have h3 : (spl l).length * (8 + 1) ≤ 6 * 9 := Nat.mul_le_mul_right _ h.1
  have h4 : l.length + 1 ≤ (spl l).length * (8 + 1) := h1 ▸ h2
  omega
theorem good_len {l : BL} (h : goodP l) : l.length ≤ 60 := by
  rcases h with h | h
  · exact path_len h
  · simp only [spareL, Bool.and_eq_true, decide_eq_true_eq] at h
    have := h.1.1.2
    omega
theorem VolOk.small {fold : Bool} {L : List EntD} (V : VolOk fold L) : ∀ o ∈ L, o.small := by
  intro o ho
  have h : o.pl.length ≤ 60 := good_len ((V.names o ho).imp id fun h => h.2)
  have h2 : o.path.size = o.pl.length := by simp [EntD.pl]
  show o.path.size ≤ 1500000
  omega
theorem VolOk.place {fold : Bool} {L : List EntD} (V : VolOk fold L) {p : BL} (hp : goodP p) : ∀ t, placeL fold L p = some t → t.length ≤ 1500000 := by
  intro t ht
  obtain ⟨h1, h2⟩ := place_good V ht hp
  have : t.length ≤ 60 := by
    rcases hp with h | h
    · exact path_len (h1 h)
    · rw [h2 h]; exact good_len (.inr h)
  omega
theorem Vm.of {w : World} {vb : Nat} {v : Value} {L : List EntD} {fold : Bool} {space : Int} (V : VolOk fold L) (hv : VolAt w vb v fold space) (hr : RowAt w v L) (h0 : 0 ≤ space) (h1 : space ≤ 9223372036854775807) : Vm w vb v L fold space :=
  ⟨hv, hr, V.few, V.small, V.srt, V.sizesOk, h0, h1⟩
theorem OpGood.small {o : OpD} (h : okOp o = true) (hd : o.dest.size ≤ 1500000) : o.small := by
  have h1 := good_len (okOp_good h).path
  have h2 : o.path.size = o.pl.length := by simp [OpD.pl]
  exact ⟨by omega, hd⟩

theorem doL_mkdir {fold : Bool} {space : Int} {L : List EntD} {o : OpD} (h : o.kind = 1) : doL fold space L o = mkL fold space L ⟨o.path, true, 0, 0, o.mode⟩ := by unfold doL; rw [if_pos h]
theorem doL_write {fold : Bool} {space : Int} {L : List EntD} {o : OpD} (h : o.kind = 4) : doL fold space L o = mkL fold space L ⟨o.path, false, o.id, o.size, o.mode⟩ := by unfold doL; rw [if_neg (by omega), if_pos h]
theorem doL_rmdir {fold : Bool} {space : Int} {L : List EntD} {o : OpD} (h : o.kind = 2) : doL fold space L o = match L[atI fold L o.pl]? with | none => .error 9 | some e => if e.dir then (if (L.any fun x => belowL false x.pl e.pl) = true then .error 13 else .ok (L.eraseIdx (atI fold L o.pl))) else .error 10 := by
  unfold doL
  rw [if_neg (by omega), if_neg (by omega)]
  cases L[atI fold L o.pl]? with
  | none => rfl
  | some e =>
    simp only
    rw [if_neg (by omega), if_neg (by omega)]
    have hk : decide (o.kind = 2) = true := by simpa using h
    have h5 : ¬ o.kind = 5 := by omega
    rw [hk]
    cases e.dir <;> simp [h5]
theorem doL_unlink {fold : Bool} {space : Int} {L : List EntD} (V : VolOk fold L) {o : OpD} (h : o.kind = 3) : doL fold space L o = match L[atI fold L o.pl]? with | none => .error 9 | some e => if e.dir then .error 10 else .ok (L.eraseIdx (atI fold L o.pl)) := by
  unfold doL
  rw [if_neg (by omega), if_neg (by omega)]
  cases he : L[atI fold L o.pl]? with
  | none => rfl
  | some e =>
    simp only
    rw [if_neg (by omega), if_neg (by omega)]
    have hk : decide (o.kind = 2) = false := by rw [decide_eq_false_iff_not]; omega
    have h5 : ¬ o.kind = 5 := by omega
    rw [hk]
    cases hd : e.dir
    · obtain ⟨hi, hx, _⟩ := atI_some he
      have := file_leaf V hi (by rw [hx]; exact hd)
      rw [hx] at this
      simp only [ne_eq, not_true_eq_false, if_false, h5, this, Bool.false_eq_true]
    · simp
theorem doL_copy {fold : Bool} {space : Int} {L : List EntD} {o : OpD} (h : o.kind = 5) : doL fold space L o = match L[atI fold L o.pl]? with | none => .error 9 | some e => if e.dir then .error 10 else mkL fold space L ⟨o.dest, false, e.id, e.size, o.mode⟩ := by
  unfold doL
  rw [if_neg (by omega), if_neg (by omega)]
  cases L[atI fold L o.pl]? with
  | none => rfl
  | some e =>
    simp only
    rw [if_neg (by omega), if_neg (by omega)]
    have hk : decide (o.kind = 2) = false := by rw [decide_eq_false_iff_not]; omega
    rw [hk]
    cases e.dir <;> simp [h]
end Go.Proofs.YtemkpollilhmjaaGreatDoor

/- A volume in memory: write. -/
namespace Go.Proofs.YtemkpollilhmjaaGreatDoor
open Go.RowKit
set_option linter.unusedVariables false
set_option linter.unusedSimpArgs false

set_option maxHeartbeats 1000000 in
theorem hasOther_nil (e : EntD) (w : World) :
    Calls Tryz.prog 56 #[.slice none 0 0, .agg #[.string e.path, .bool e.dir, .int .i64 e.id, .int .i64 e.size, .int .i64 e.mode]] w fun r w' => r = .returned (.bool false) ∧ Below w.heap.size w w' := by
  have hb1 : Below w.heap.size w (w.alloc (.cells #[.string e.path, .bool e.dir, .int .i64 e.id, .int .i64 e.size, .int .i64 e.mode] 54)) := (Below.refl _ _).alloc (Nat.le_refl _) _
  go_enter Tryz.func56, Tryz.ntmps56
  go_wp2
  refine wp_loop_rounds 1 ?_
  rw [rounds_succ]
  go_wp2
  go_ret
  exact ⟨rfl, hb1⟩
theorem vother {w : World} {v : Value} {L : List EntD} (hr : RowAt w v L) (hl : L.length ≤ 120) (e : EntD) : ∀ u : World, Below w.heap.size w u → Calls Tryz.prog 56 #[v, .agg #[.string e.path, .bool e.dir, .int .i64 e.id, .int .i64 e.size, .int .i64 e.mode]] u fun r u' => r = .returned (.bool (otherB L e)) ∧ Below u.heap.size u u' := by
  intro u hu
  cases hr with
  | nil => exact hasOther_nil e u
  | row b off cap l hlt hc hm h => exact hasOther_any b off cap L e u (by omega) (by have := hu.size; omega) (h.below hu hlt)

set_option maxHeartbeats 2000000 in
theorem vwrite {w : World} {vb : Nat} {v : Value} {L : List EntD} {fold : Bool} {space : Int} (V : Vm w vb v L fold space) (o : OpD) (ho : o.small) (hp : ∀ t, placeL fold L o.pl = some t → t.length ≤ 1500000)
    (hot : ∀ e : EntD, e.id = o.id → e.size = o.size → otherB L e = (L.any fun x => !x.dir && decide (x.id = o.id) && decide (x.size ≠ o.size))) :
    Calls Tryz.prog 105 #[.pointer (some ⟨vb, 0, none⟩), o.val] w fun r w' => Ans w.heap.size (mkL fold space L ⟨o.path, false, o.id, o.size, o.mode⟩) r w' ∧ Below w.heap.size w w' := by
  have ST := hidD (Ob.start w o)
  have HF : Hid (∀ u : World, Below w.heap.size w u → Calls Tryz.prog 125 #[.pointer (some ⟨vb, 0, none⟩), .string o.path] u fun e w' => e = .returned (.tuple #[.string (freeAns fold L o.path).1, .int .i64 (freeAns fold L o.path).2]) ∧ Below u.heap.size u w') := fun u hu => vfree (V.below hu).vol (V.below hu).row V.smallL o.path ho.1
  have k1 := ST.out.cell 1
  simp [OpD.cells] at k1
  rcases free_cases fold L o.path with ⟨ha, hA⟩ | ⟨ha, hpl, hA⟩ | ⟨ha, ⟨t, hpl⟩, hn, hA⟩ | ⟨ha, hn, t, hpl, hA⟩
  · have hM : mkL fold space L ⟨o.path, false, o.id, o.size, o.mode⟩ = .error 8 := by unfold mkL; exact if_pos ha
    rw [hM]
    rw [hA] at HF
    unfold OpD.val Ans
    go_enter Tryz.func105, Tryz.ntmps105
    go_wp2_with (go_at_call 125; refine (HF.out _ ST.out.bel).mono ?_; rintro r w1 ⟨rfl, hb1⟩)
    go_ret2
    exact ⟨rfl, (ST.out.below hb1).bel⟩
  · have hM : mkL fold space L ⟨o.path, false, o.id, o.size, o.mode⟩ = .error 2 := by
      unfold mkL
      rw [show (EntD.pl ⟨o.path, false, o.id, o.size, o.mode⟩) = o.path.data.toList from rfl, ha, if_neg (by simp), hpl]
    rw [hM]
    rw [hA] at HF
    unfold OpD.val Ans
    go_enter Tryz.func105, Tryz.ntmps105
    go_wp2_with (go_at_call 125; refine (HF.out _ ST.out.bel).mono ?_; rintro r w1 ⟨rfl, hb1⟩)
    go_ret2
    exact ⟨rfl, (ST.out.below hb1).bel⟩
  · have hM : mkL fold space L ⟨o.path, false, o.id, o.size, o.mode⟩ = .error 5 := by
      unfold mkL
      rw [show (EntD.pl ⟨o.path, false, o.id, o.size, o.mode⟩) = o.path.data.toList from rfl, ha, if_neg (by simp), hpl]
      simp only [hn, if_true]
    rw [hM]
    rw [hA] at HF
    unfold OpD.val Ans
    go_enter Tryz.func105, Tryz.ntmps105
    go_wp2_with (go_at_call 125; refine (HF.out _ ST.out.bel).mono ?_; rintro r w1 ⟨rfl, hb1⟩)
    go_ret2
    exact ⟨rfl, (ST.out.below hb1).bel⟩
  · rw [hA] at HF
    have hO := hot ⟨ofL t, false, o.id, o.size, o.mode⟩ rfl rfl
    have hM : mkL fold space L ⟨o.path, false, o.id, o.size, o.mode⟩ = if otherB L ⟨ofL t, false, o.id, o.size, o.mode⟩ = true then .error 6 else if space - usedL L < o.size then .error 11 else .ok (insL ⟨ofL t, false, o.id, o.size, o.mode⟩ L) := by
      unfold mkL
      rw [show (EntD.pl ⟨o.path, false, o.id, o.size, o.mode⟩) = o.path.data.toList from rfl, ha, if_neg (by simp), hpl, hO]
      simp only [hn, if_false, Bool.not_false, Bool.true_and, decide_eq_true_eq]
      congr 1
      by_cases hs : space - usedL L < o.size
      · rw [if_pos hs, if_pos (by omega)]
      · rw [if_neg hs, if_neg (by omega)]; rfl
    rw [hM]
    have hsm : (ofL t).size ≤ 1500000 := ofL_small (hp t hpl)
    have HO := hidD (vother V.row V.len ⟨ofL t, false, o.id, o.size, o.mode⟩)
    have HW := hidD (fun (u : World) (hu : Below w.heap.size w u) => vfilled (V.below hu).vol (V.below hu).row V.len V.small V.srt V.sizes V.sp0 V.sp1 ⟨ofL t, false, o.id, o.size, o.mode⟩ hsm (by have := free_ne ha hpl; simpa [EntD.pl, ofL] using this))
    have HV := hidD V.vol
    have hvlt := V.vol.lt
    obtain ⟨a, c, hv⟩ := V.row.val
    subst hv
    clear hM hO hot hp V ha hpl hA
    generalize insL ⟨ofL t, false, o.id, o.size, o.mode⟩ L = M at *
    generalize otherB L ⟨ofL t, false, o.id, o.size, o.mode⟩ = ot at *
    generalize ofL t = pt at *
    generalize usedL L = us at *
    generalize L.length = n at *
    cases ot
    · simp only [Bool.false_eq_true, if_false]
      by_cases hf : space - us < o.size
      · simp only [hf, if_true, ↓reduceIte] at HW ⊢
        unfold OpD.val Ans
        go_enter Tryz.func105, Tryz.ntmps105
        go_wp2_with (go_at_call 125; refine (HF.out _ ST.out.bel).mono ?_; rintro r w1 ⟨rfl, hb1⟩; have s1 := ST.out.below hb1; have d3 := s1.cell 3; have d4 := s1.cell 4; have d5 := s1.cell 5; simp [OpD.cells] at d3 d4 d5)
        have e1 := Eb.start w1 ⟨pt, false, o.id, o.size, o.mode⟩
        have bv := s1.bel.trans (e1.bel.mono s1.bel.size)
        have c0 := (HV.out.below bv hvlt).c0
        have E1 := hidD e1
        have BV := hidD bv
        have g0 := e1.cell 0
        have g1 := e1.cell 1
        have g2 := e1.cell 2
        have g3 := e1.cell 3
        have g4 := e1.cell 4
        simp [EntD.cells] at g0 g1 g2 g3 g4 c0
        clear e1 bv d3 d4 d5 k1
        go_region_held (fun u => u.cell? ⟨vb, 0, none⟩ = some (.slice a n c) ∧ u.cell? ⟨w1.heap.size, 0, none⟩ = some (.string pt) ∧ u.cell? ⟨w1.heap.size, 1, none⟩ = some (.bool false) ∧ u.cell? ⟨w1.heap.size, 2, none⟩ = some (.int .i64 o.id) ∧ u.cell? ⟨w1.heap.size, 3, none⟩ = some (.int .i64 o.size) ∧ u.cell? ⟨w1.heap.size, 4, none⟩ = some (.int .i64 o.mode)) (go_keep) (first | (go_at_call 56; refine (HO.out _ (BV.out.trans (below_drewE _ 1))).mono ?_; rintro r w2 ⟨rfl, hb2⟩; have e2 := (E1.out.drewN 1).below hb2; have f0 := e2.cell 0; have f1 := e2.cell 1; have f2 := e2.cell 2; have f3 := e2.cell 3; have f4 := e2.cell 4; simp [EntD.cells] at f0 f1 f2 f3 f4; have bw := s1.bel.trans (e2.bel.mono s1.bel.size); have fv := (HV.out.below bw hvlt).c0))
        all_goals go_wp2_with (go_at_call 131; refine (HW.out _ bw).mono ?_; rintro r w3 ⟨hb3, rfl⟩)
        all_goals go_ret2
        all_goals exact ⟨rfl, bw.trans (hb3.mono bw.size)⟩
      · simp only [hf, if_false, ↓reduceIte] at HW ⊢
        unfold OpD.val Ans
        go_enter Tryz.func105, Tryz.ntmps105
        go_wp2_with (go_at_call 125; refine (HF.out _ ST.out.bel).mono ?_; rintro r w1 ⟨rfl, hb1⟩; have s1 := ST.out.below hb1; have d3 := s1.cell 3; have d4 := s1.cell 4; have d5 := s1.cell 5; simp [OpD.cells] at d3 d4 d5)
        have e1 := Eb.start w1 ⟨pt, false, o.id, o.size, o.mode⟩
        have bv := s1.bel.trans (e1.bel.mono s1.bel.size)
        have c0 := (HV.out.below bv hvlt).c0
        have E1 := hidD e1
        have BV := hidD bv
        have g0 := e1.cell 0
        have g1 := e1.cell 1
        have g2 := e1.cell 2
        have g3 := e1.cell 3
        have g4 := e1.cell 4
        simp [EntD.cells] at g0 g1 g2 g3 g4 c0
        clear e1 bv d3 d4 d5 k1
        go_region_held (fun u => u.cell? ⟨vb, 0, none⟩ = some (.slice a n c) ∧ u.cell? ⟨w1.heap.size, 0, none⟩ = some (.string pt) ∧ u.cell? ⟨w1.heap.size, 1, none⟩ = some (.bool false) ∧ u.cell? ⟨w1.heap.size, 2, none⟩ = some (.int .i64 o.id) ∧ u.cell? ⟨w1.heap.size, 3, none⟩ = some (.int .i64 o.size) ∧ u.cell? ⟨w1.heap.size, 4, none⟩ = some (.int .i64 o.mode)) (go_keep) (first | (go_at_call 56; refine (HO.out _ (BV.out.trans (below_drewE _ 1))).mono ?_; rintro r w2 ⟨rfl, hb2⟩; have e2 := (E1.out.drewN 1).below hb2; have f0 := e2.cell 0; have f1 := e2.cell 1; have f2 := e2.cell 2; have f3 := e2.cell 3; have f4 := e2.cell 4; simp [EntD.cells] at f0 f1 f2 f3 f4; have bw := s1.bel.trans (e2.bel.mono s1.bel.size); have fv := (HV.out.below bw hvlt).c0))
        all_goals go_wp2_with (go_at_call 131; refine (HW.out _ bw).mono ?_; rintro r w3 ⟨hb3, v3, rfl, hown3⟩; obtain ⟨a3, m3, c3, rfl⟩ := own_shape hown3)
        all_goals go_ret2
        all_goals exact ⟨⟨_, rfl, own_mono hown3 bw.size⟩, bw.trans (hb3.mono bw.size)⟩
    · simp only [if_true]
      unfold OpD.val Ans
      go_enter Tryz.func105, Tryz.ntmps105
      go_wp2_with (go_at_call 125; refine (HF.out _ ST.out.bel).mono ?_; rintro r w1 ⟨rfl, hb1⟩; have s1 := ST.out.below hb1; have d3 := s1.cell 3; have d4 := s1.cell 4; have d5 := s1.cell 5; simp [OpD.cells] at d3 d4 d5)
      have e1 := Eb.start w1 ⟨pt, false, o.id, o.size, o.mode⟩
      have bv := s1.bel.trans (e1.bel.mono s1.bel.size)
      have c0 := (HV.out.below bv hvlt).c0
      have E1 := hidD e1
      have BV := hidD bv
      have g0 := e1.cell 0
      have g1 := e1.cell 1
      have g2 := e1.cell 2
      have g3 := e1.cell 3
      have g4 := e1.cell 4
      simp [EntD.cells] at g0 g1 g2 g3 g4 c0
      clear e1 bv d3 d4 d5 k1
      go_region_held (fun u => u.cell? ⟨vb, 0, none⟩ = some (.slice a n c) ∧ u.cell? ⟨w1.heap.size, 0, none⟩ = some (.string pt) ∧ u.cell? ⟨w1.heap.size, 1, none⟩ = some (.bool false) ∧ u.cell? ⟨w1.heap.size, 2, none⟩ = some (.int .i64 o.id) ∧ u.cell? ⟨w1.heap.size, 3, none⟩ = some (.int .i64 o.size) ∧ u.cell? ⟨w1.heap.size, 4, none⟩ = some (.int .i64 o.mode)) (go_keep) (first | (go_at_call 56; refine (HO.out _ (BV.out.trans (below_drewE _ 1))).mono ?_; rintro r w2 ⟨rfl, hb2⟩; have e2 := (E1.out.drewN 1).below hb2; have f0 := e2.cell 0; have f1 := e2.cell 1; have f2 := e2.cell 2; have f3 := e2.cell 3; have f4 := e2.cell 4; simp [EntD.cells] at f0 f1 f2 f3 f4; have bw := s1.bel.trans (e2.bel.mono s1.bel.size); have fv := (HV.out.below bw hvlt).c0))
      all_goals go_wp2
      all_goals go_ret2
      all_goals exact ⟨rfl, bw⟩
end Go.Proofs.YtemkpollilhmjaaGreatDoor

/- A volume in memory: copy. -/
namespace Go.Proofs.YtemkpollilhmjaaGreatDoor
open Go.RowKit
set_option linter.unusedVariables false
set_option linter.unusedSimpArgs false

set_option maxHeartbeats 2000000 in
/-- Up to the file: an error of it. -/
theorem vcopy_bad {w : World} {vb : Nat} {v : Value} {L : List EntD} {fold : Bool} {space : Int} (V : Vm w vb v L fold space) (o : OpD) (ho : o.small) (n : Int) (hn : n ≠ 0)
    (hf : ∀ u : World, Below w.heap.size w u → Calls Tryz.prog 130 #[.pointer (some ⟨vb, 0, none⟩), .string o.path] u fun e w' => e = .returned (.tuple #[.int .i64 0, .int .i64 n]) ∧ Below u.heap.size u w') :
    Calls Tryz.prog 106 #[.pointer (some ⟨vb, 0, none⟩), o.val] w fun r w' => Ans w.heap.size (.error n) r w' ∧ Below w.heap.size w w' := by
  have ST := hidD (Ob.start w o)
  have HF := hidD hf
  have k1 := ST.out.cell 1
  simp [OpD.cells] at k1
  have hn' : (n != 0) = true := by simpa using hn
  have hn2 : (n == 0) = false := by simpa using hn
  unfold OpD.val Ans
  go_enter Tryz.func106, Tryz.ntmps106
  go_wp2_with (go_at_call 130; refine (HF.out _ ST.out.bel).mono ?_; rintro r w1 ⟨rfl, hb1⟩)
  go_ret2
  exact ⟨rfl, (ST.out.below hb1).bel⟩

set_option maxHeartbeats 4000000 in
/-- Past the file, which is the entry e at number i. -/
theorem vcopy_good {w : World} {vb b off cap : Nat} {L : List EntD} {fold : Bool} {space : Int} (V : Vm w vb (.slice (some ⟨b, off, none⟩) L.length cap) L fold space) (hlb : b < w.heap.size) (hc : EntsAt w b off L) (o : OpD) (ho : o.small) (i : Nat) (hi : i < L.length) (e : EntD) (he : L[i] = e) (hp : ∀ t, placeL fold L o.tl = some t → t.length ≤ 1500000)
    (hot : (L.any fun x => !x.dir && decide (x.id = e.id) && decide (x.size ≠ e.size)) = false)
    (hf : ∀ u : World, Below w.heap.size w u → Calls Tryz.prog 130 #[.pointer (some ⟨vb, 0, none⟩), .string o.path] u fun e w' => e = .returned (.tuple #[.int .i64 i, .int .i64 0]) ∧ Below u.heap.size u w') :
    Calls Tryz.prog 106 #[.pointer (some ⟨vb, 0, none⟩), o.val] w fun r w' => Ans w.heap.size (mkL fold space L ⟨o.dest, false, e.id, e.size, o.mode⟩) r w' ∧ Below w.heap.size w w' := by
  have ST := hidD (Ob.start w o)
  have HF := hidD hf
  have HR : Hid (∀ u : World, Below w.heap.size w u → Calls Tryz.prog 125 #[.pointer (some ⟨vb, 0, none⟩), .string o.dest] u fun e w' => e = .returned (.tuple #[.string (freeAns fold L o.dest).1, .int .i64 (freeAns fold L o.dest).2]) ∧ Below u.heap.size u w') := fun u hu => vfree (V.below hu).vol (V.below hu).row V.smallL o.dest ho.2
  have k1 := ST.out.cell 1
  simp [OpD.cells] at k1
  rcases free_cases fold L o.dest with ⟨ha, hA⟩ | ⟨ha, hpl, hA⟩ | ⟨ha, ⟨t, hpl⟩, hn, hA⟩ | ⟨ha, hn, t, hpl, hA⟩
  · have hM : mkL fold space L ⟨o.dest, false, e.id, e.size, o.mode⟩ = .error 8 := by unfold mkL; exact if_pos ha
    rw [hM]
    rw [hA] at HR
    unfold OpD.val Ans
    go_enter Tryz.func106, Tryz.ntmps106
    go_wp2_with (first | (go_at_call 130; refine (HF.out _ ST.out.bel).mono ?_; rintro r w1 ⟨rfl, hb1⟩; have s1 := ST.out.below hb1; have d2 := s1.cell 2; simp [OpD.cells] at d2) | (go_at_call 125; refine (HR.out _ s1.bel).mono ?_; rintro r w2 ⟨rfl, hb2⟩))
    go_ret2
    exact ⟨rfl, (s1.below hb2).bel⟩
  · have hM : mkL fold space L ⟨o.dest, false, e.id, e.size, o.mode⟩ = .error 2 := by
      unfold mkL
      rw [show (EntD.pl ⟨o.dest, false, e.id, e.size, o.mode⟩) = o.dest.data.toList from rfl, ha, if_neg (by simp), hpl]
    rw [hM]
    rw [hA] at HR
    unfold OpD.val Ans
    go_enter Tryz.func106, Tryz.ntmps106
    go_wp2_with (first | (go_at_call 130; refine (HF.out _ ST.out.bel).mono ?_; rintro r w1 ⟨rfl, hb1⟩; have s1 := ST.out.below hb1; have d2 := s1.cell 2; simp [OpD.cells] at d2) | (go_at_call 125; refine (HR.out _ s1.bel).mono ?_; rintro r w2 ⟨rfl, hb2⟩))
    go_ret2
    exact ⟨rfl, (s1.below hb2).bel⟩
  · have hM : mkL fold space L ⟨o.dest, false, e.id, e.size, o.mode⟩ = .error 5 := by
      unfold mkL
      rw [show (EntD.pl ⟨o.dest, false, e.id, e.size, o.mode⟩) = o.dest.data.toList from rfl, ha, if_neg (by simp), hpl]
      simp only [hn, if_true]
    rw [hM]
    rw [hA] at HR
    unfold OpD.val Ans
    go_enter Tryz.func106, Tryz.ntmps106
    go_wp2_with (first | (go_at_call 130; refine (HF.out _ ST.out.bel).mono ?_; rintro r w1 ⟨rfl, hb1⟩; have s1 := ST.out.below hb1; have d2 := s1.cell 2; simp [OpD.cells] at d2) | (go_at_call 125; refine (HR.out _ s1.bel).mono ?_; rintro r w2 ⟨rfl, hb2⟩))
    go_ret2
    exact ⟨rfl, (s1.below hb2).bel⟩
  · rw [hA] at HR
    have hM : mkL fold space L ⟨o.dest, false, e.id, e.size, o.mode⟩ = if space - usedL L < e.size then .error 11 else .ok (insL ⟨ofL t, false, e.id, e.size, o.mode⟩ L) := by
      unfold mkL
      rw [show (EntD.pl ⟨o.dest, false, e.id, e.size, o.mode⟩) = o.dest.data.toList from rfl, ha, if_neg (by simp), hpl]
      simp only [hn, hot, if_false, Bool.not_false, Bool.true_and, decide_eq_true_eq, Bool.false_eq_true]
      by_cases hs : space - usedL L < e.size
      · rw [if_pos hs, if_pos (by omega)]
      · rw [if_neg hs, if_neg (by omega)]; rfl
    rw [hM]
    have hsm : (ofL t).size ≤ 1500000 := ofL_small (hp t hpl)
    have HW := hidD (fun (u : World) (hu : Below w.heap.size w u) => vfilled (V.below hu).vol (V.below hu).row V.len V.small V.srt V.sizes V.sp0 V.sp1 ⟨ofL t, false, e.id, e.size, o.mode⟩ hsm (by have := free_ne ha hpl; simpa [EntD.pl, ofL] using this))
    have HV := hidD V.vol
    have hvlt := V.vol.lt
    have hll := V.len
    have HE : Hid (∀ u : World, Below w.heap.size w u → u.cell? ⟨b, off + i * 5 + 2, none⟩ = some (.int .i64 e.id) ∧ u.cell? ⟨b, off + i * 5 + 3, none⟩ = some (.int .i64 e.size)) := fun u hu => ⟨by have := (hc.below hu hlb) i hi 2 (.int .i64 e.id) (by rw [he]; rfl); exact this, by have := (hc.below hu hlb) i hi 3 (.int .i64 e.size) (by rw [he]; rfl); exact this⟩
    clear hM hot hp V ha hpl hA he hc hf
    generalize insL ⟨ofL t, false, e.id, e.size, o.mode⟩ L = M at *
    generalize ofL t = pt at *
    generalize usedL L = us at *
    generalize L.length = n at *
    by_cases hfl : space - us < e.size
    · simp only [hfl, if_true, ↓reduceIte] at HW ⊢
      unfold OpD.val Ans
      go_enter Tryz.func106, Tryz.ntmps106
      go_wp2_with (first | (go_at_call 130; refine (HF.out _ ST.out.bel).mono ?_; rintro r w1 ⟨rfl, hb1⟩; have s1 := ST.out.below hb1; have d2 := s1.cell 2; simp [OpD.cells] at d2) | (go_at_call 125; refine (HR.out _ s1.bel).mono ?_; rintro r w2 ⟨rfl, hb2⟩; have s2 := s1.below hb2; have d5 := s2.cell 5; simp [OpD.cells] at d5; have c0 := (HV.out.below s2.bel hvlt).c0; obtain ⟨c2, c3⟩ := HE.out _ s2.bel))
      clear d2 k1
      go_region_held (fun u => u.cell? ⟨vb, 0, none⟩ = some (.slice (some ⟨b, off, none⟩) n cap) ∧ u.cell? ⟨b, off + i * 5 + 2, none⟩ = some (.int .i64 e.id) ∧ u.cell? ⟨b, off + i * 5 + 3, none⟩ = some (.int .i64 e.size) ∧ u.cell? ⟨w.heap.size, 5, none⟩ = some (.int .i64 o.mode)) (go_keep) (first | (go_at_call 131; refine (HW.out _ (s2.bel.trans (below_drewE _ 1))).mono ?_; rintro r w3 ⟨hb3, rfl⟩; have s3 := (s2.drewN 1).below hb3; have f5 := s3.cell 5; simp [OpD.cells] at f5; have fv := (HV.out.below s3.bel hvlt).c0; obtain ⟨f2, f3⟩ := HE.out _ s3.bel))
      all_goals go_wp2
      all_goals go_ret2
      all_goals exact ⟨rfl, s3.bel⟩
    · simp only [hfl, if_false, ↓reduceIte] at HW ⊢
      unfold OpD.val Ans
      go_enter Tryz.func106, Tryz.ntmps106
      go_wp2_with (first | (go_at_call 130; refine (HF.out _ ST.out.bel).mono ?_; rintro r w1 ⟨rfl, hb1⟩; have s1 := ST.out.below hb1; have d2 := s1.cell 2; simp [OpD.cells] at d2) | (go_at_call 125; refine (HR.out _ s1.bel).mono ?_; rintro r w2 ⟨rfl, hb2⟩; have s2 := s1.below hb2; have d5 := s2.cell 5; simp [OpD.cells] at d5; have c0 := (HV.out.below s2.bel hvlt).c0; obtain ⟨c2, c3⟩ := HE.out _ s2.bel))
      clear d2 k1
      go_region_held (fun u => u.cell? ⟨vb, 0, none⟩ = some (.slice (some ⟨b, off, none⟩) n cap) ∧ u.cell? ⟨b, off + i * 5 + 2, none⟩ = some (.int .i64 e.id) ∧ u.cell? ⟨b, off + i * 5 + 3, none⟩ = some (.int .i64 e.size) ∧ u.cell? ⟨w.heap.size, 5, none⟩ = some (.int .i64 o.mode)) (go_keep) (first | (go_at_call 131; refine (HW.out _ (s2.bel.trans (below_drewE _ 1))).mono ?_; rintro r w3 ⟨hb3, v3, rfl, hown3⟩; obtain ⟨a3, m3, c3, rfl⟩ := own_shape hown3; have s3 := (s2.drewN 1).below hb3; have f5 := s3.cell 5; simp [OpD.cells] at f5; have fv := (HV.out.below s3.bel hvlt).c0; obtain ⟨f2, f3⟩ := HE.out _ s3.bel))
      all_goals go_wp2
      all_goals go_ret2
      all_goals exact ⟨⟨_, rfl, own_mono hown3 s2.bel.size⟩, s3.bel⟩
end Go.Proofs.YtemkpollilhmjaaGreatDoor

/- A volume in memory: copy, whole; the operations but rename against the plain one. -/
namespace Go.Proofs.YtemkpollilhmjaaGreatDoor
open Go.RowKit
set_option linter.unusedVariables false
set_option linter.unusedSimpArgs false

theorem vcopy {w : World} {vb : Nat} {v : Value} {L : List EntD} {fold : Bool} {space : Int} (V : Vm w vb v L fold space) (K : VolOk fold L) (o : OpD) (ho : o.small) (hg : goodP o.tl) :
    Calls Tryz.prog 106 #[.pointer (some ⟨vb, 0, none⟩), o.val] w fun r w' => Ans w.heap.size (match L[atI fold L o.pl]? with | none => .error 9 | some e => if e.dir then .error 10 else mkL fold space L ⟨o.dest, false, e.id, e.size, o.mode⟩) r w' ∧ Below w.heap.size w w' := by
  have HF := fun (u : World) (hu : Below w.heap.size w u) => vfile (V.below hu).vol (V.below hu).row V.smallL o.path ho.1
  rw [show o.path.data.toList = o.pl from rfl] at HF
  rcases fstI_at fold L o.pl with ⟨hi, hf⟩ | ⟨hlt, hi, hf⟩
  · rw [hf] at HF ⊢
    exact vcopy_bad V o ho 9 (by decide) HF
  · rw [hf] at HF ⊢
    cases hd : L[atI fold L o.pl].dir
    · simp only [hd, Bool.false_eq_true, if_false] at HF ⊢
      have hrow := V.row
      cases hrow with
      | nil => simp at hlt
      | row b off cap l hlb hc hm h =>
        exact vcopy_good V hlb h o ho (atI fold L o.pl) hlt _ rfl (K.place hg) (K.alike _ (List.getElem_mem hlt) hd) HF
    · simp only [hd, if_true] at HF ⊢
      exact vcopy_bad V o ho 10 (by decide) HF
theorem doL_chmod {fold : Bool} {space : Int} {L : List EntD} {o : OpD} (h : o.kind = 7) : doL fold space L o = match L[atI fold L o.pl]? with | none => .error 9 | some e => .ok (L.set (atI fold L o.pl) { e with mode := o.mode }) := by
  unfold doL
  rw [if_neg (by omega), if_neg (by omega)]
  cases L[atI fold L o.pl]? with
  | none => rfl
  | some e => simp only; rw [if_pos h]

/-- Every operation's own function but rename's, against doL. -/
theorem vop {w : World} {vb : Nat} {v : Value} {L : List EntD} {fold : Bool} {space : Int} (V : Vm w vb v L fold space) (K : VolOk fold L) (o : OpD) (ho : o.small) (hg : OpGood o) (n : Nat)
    (hn : (o.kind = 1 ∧ n = 102) ∨ (o.kind = 2 ∧ n = 103) ∨ (o.kind = 3 ∧ n = 104) ∨ (o.kind = 4 ∧ n = 105) ∨ (o.kind = 5 ∧ n = 106) ∨ (o.kind = 7 ∧ n = 108)) :
    Calls Tryz.prog n #[.pointer (some ⟨vb, 0, none⟩), o.val] w fun r w' => Ans w.heap.size (doL fold space L o) r w' ∧ Below w.heap.size w w' := by
  rcases hn with ⟨h, rfl⟩ | ⟨h, rfl⟩ | ⟨h, rfl⟩ | ⟨h, rfl⟩ | ⟨h, rfl⟩ | ⟨h, rfl⟩
  · rw [doL_mkdir h]; exact vmkdir V o ho (K.place hg.path)
  · rw [doL_rmdir h]; exact vrmdir V o ho
  · rw [doL_unlink K h]; exact vunlink V o ho
  · rw [doL_write h]; exact vwrite V o ho (K.place hg.path) (K.other o.id o.size (hg.file h).1)
  · rw [doL_copy h]; exact vcopy V K o ho (hg.dest (.inl h))
  · rw [doL_chmod h]; exact vchmod V o ho
end Go.Proofs.YtemkpollilhmjaaGreatDoor

/- A volume in memory: the entries behind an operation; rename's own function is handed in. -/
namespace Go.Proofs.YtemkpollilhmjaaGreatDoor
open Go.RowKit
set_option linter.unusedVariables false
set_option linter.unusedSimpArgs false

def fnOf (k : Int) : Nat := if k = 1 then 102 else if k = 2 then 103 else if k = 3 then 104 else if k = 4 then 105 else if k = 5 then 106 else if k = 6 then 107 else 108

set_option maxHeartbeats 2000000 in
theorem vafter {w : World} {vb : Nat} (kind : Int) (path dest : ByteArray) (id size mode : Int) (hk : 1 ≤ kind ∧ kind ≤ 7) (x : Except Int (List EntD))
    (H : ∀ u : World, Below w.heap.size w u → Calls Tryz.prog (fnOf kind) #[.pointer (some ⟨vb, 0, none⟩), .agg #[.int .i64 kind, .string path, .string dest, .int .i64 id, .int .i64 size, .int .i64 mode]] u fun r w' => Ans u.heap.size x r w' ∧ Below u.heap.size u w') :
    Calls Tryz.prog 72 #[.pointer (some ⟨vb, 0, none⟩), .agg #[.int .i64 kind, .string path, .string dest, .int .i64 id, .int .i64 size, .int .i64 mode]] w fun r w' => Ans w.heap.size x r w' ∧ Below w.heap.size w w' := by
  have HH := hidD H
  clear H
  have ST := hidD (Ob.start w ⟨kind, path, dest, id, size, mode⟩)
  have hK : kind = 1 ∨ kind = 2 ∨ kind = 3 ∨ kind = 4 ∨ kind = 5 ∨ kind = 6 ∨ kind = 7 := by omega
  cases x with
  | error n =>
    unfold Ans at HH ⊢
    rcases hK with rfl | rfl | rfl | rfl | rfl | rfl | rfl
    all_goals
      simp only [fnOf] at HH
      go_enter Tryz.func72, Tryz.ntmps72
      go_wp2_with (first | (go_at_call 102; refine (HH.out _ ST.out.bel).mono ?_; rintro r w1 ⟨rfl, hb1⟩) | (go_at_call 103; refine (HH.out _ ST.out.bel).mono ?_; rintro r w1 ⟨rfl, hb1⟩) | (go_at_call 104; refine (HH.out _ ST.out.bel).mono ?_; rintro r w1 ⟨rfl, hb1⟩) | (go_at_call 105; refine (HH.out _ ST.out.bel).mono ?_; rintro r w1 ⟨rfl, hb1⟩) | (go_at_call 106; refine (HH.out _ ST.out.bel).mono ?_; rintro r w1 ⟨rfl, hb1⟩) | (go_at_call 107; refine (HH.out _ ST.out.bel).mono ?_; rintro r w1 ⟨rfl, hb1⟩) | (go_at_call 108; refine (HH.out _ ST.out.bel).mono ?_; rintro r w1 ⟨rfl, hb1⟩))
      go_ret2
      exact ⟨rfl, (ST.out.below hb1).bel⟩
  | ok M =>
    unfold Ans at HH ⊢
    rcases hK with rfl | rfl | rfl | rfl | rfl | rfl | rfl
    all_goals
      simp only [fnOf] at HH
      go_enter Tryz.func72, Tryz.ntmps72
      go_wp2_with (first | (go_at_call 102; refine (HH.out _ ST.out.bel).mono ?_; rintro r w1 ⟨⟨v3, rfl, hown3⟩, hb1⟩; obtain ⟨a3, m3, c3, rfl⟩ := own_shape hown3) | (go_at_call 103; refine (HH.out _ ST.out.bel).mono ?_; rintro r w1 ⟨⟨v3, rfl, hown3⟩, hb1⟩; obtain ⟨a3, m3, c3, rfl⟩ := own_shape hown3) | (go_at_call 104; refine (HH.out _ ST.out.bel).mono ?_; rintro r w1 ⟨⟨v3, rfl, hown3⟩, hb1⟩; obtain ⟨a3, m3, c3, rfl⟩ := own_shape hown3) | (go_at_call 105; refine (HH.out _ ST.out.bel).mono ?_; rintro r w1 ⟨⟨v3, rfl, hown3⟩, hb1⟩; obtain ⟨a3, m3, c3, rfl⟩ := own_shape hown3) | (go_at_call 106; refine (HH.out _ ST.out.bel).mono ?_; rintro r w1 ⟨⟨v3, rfl, hown3⟩, hb1⟩; obtain ⟨a3, m3, c3, rfl⟩ := own_shape hown3) | (go_at_call 107; refine (HH.out _ ST.out.bel).mono ?_; rintro r w1 ⟨⟨v3, rfl, hown3⟩, hb1⟩; obtain ⟨a3, m3, c3, rfl⟩ := own_shape hown3) | (go_at_call 108; refine (HH.out _ ST.out.bel).mono ?_; rintro r w1 ⟨⟨v3, rfl, hown3⟩, hb1⟩; obtain ⟨a3, m3, c3, rfl⟩ := own_shape hown3))
      go_ret2
      exact ⟨⟨_, rfl, own_mono hown3 ST.out.bel.size⟩, (ST.out.below hb1).bel⟩
end Go.Proofs.YtemkpollilhmjaaGreatDoor

