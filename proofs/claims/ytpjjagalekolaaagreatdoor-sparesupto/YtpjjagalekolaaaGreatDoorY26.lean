/- VU, VV, VW, VX: in one text. -/
import Derived.Test.YtpjjagalekolaaaGreatDoorY20
import Derived.Test.YtpjjagalekolaaaGreatDoorY25Sort
/- The library's SortFunc at entries, by their paths. -/
namespace Go.Proofs.YtpjjagalekolaaaGreatDoor
open Go.RowKit Go.Sort
set_option linter.unusedVariables false
set_option linter.unusedSimpArgs false

/-- An entry whose path is not too long. -/
abbrev SmE : Type := { o : EntD // o.small }
def encE (x : SmE) : List Value := x.1.cells
def cfE (x y : SmE) : Int := cmpL x.1.pl y.1.pl
theorem encE_len (x : SmE) : (encE x).length = 5 := by simp [encE, EntD.cells]
theorem encE_one (x : SmE) : ∀ v ∈ encE x, v.oneCell' = true := by
  intro v hv
  simp [encE, EntD.cells] at hv
  rcases hv with rfl | rfl | rfl | rfl | rfl <;> rfl
theorem ltE (x y : SmE) : ltOf cfE x y = decide (key x.1.pl < key y.1.pl) := by
  unfold ltOf cfE
  rw [decide_eq_decide]
  exact (cmpL_key _ _).1
theorem swoE : SWO (ltOf cfE) where
  irrefl x := by rw [ltE, decide_eq_false_iff_not]; exact List.lt_irrefl _
  trans x y z h1 h2 := by
    rw [ltE, decide_eq_true_eq] at *
    exact List.lt_trans h1 h2
  ntrans x y z h1 h2 := by
    rw [ltE, decide_eq_false_iff_not, List.not_lt] at *
    exact List.le_trans h2 h1

def smL (L : List EntD) (h : ∀ o ∈ L, o.small) : Array SmE := (L.attach.map fun x => (⟨x.1, h x.1 x.2⟩ : SmE)).toArray
theorem smL_size (L : List EntD) (h : ∀ o ∈ L, o.small) : (smL L h).size = L.length := by simp [smL]
theorem smL_list (L : List EntD) (h : ∀ o ∈ L, o.small) : (smL L h).toList.map (·.1) = L := by
  simp [smL, Function.comp_def]
theorem flatE_nth (L : List EntD) (j : Nat) (hj : j < L.length * 5) : (flatE L)[j]? = (L[j / 5]'(by omega)).cells[j % 5]? := by
  have := flatE_get L (j / 5) (by omega) (j % 5) (by omega)
  rwa [show j / 5 * 5 + j % 5 = j by omega] at this
theorem flatK_nth [Inhabited SmE] (d : Array SmE) (j : Nat) (hj : j < d.size * 5) : (flatE (d.toList.map (·.1)))[j]? = some (flatK encE 5 d)[j]! := by
  rw [get_flatK _ _ _ _ hj, flatE_nth _ _ (by simpa using hj)]
  have hq : j / 5 < d.size := by omega
  rw [getElem!_pos d (j / 5) hq]
  simp only [List.getElem_map, Array.getElem_toList]
  have h5 : j % 5 < (encE d[j / 5]).length := by rw [encE_len]; omega
  rw [getElem!_pos (encE d[j / 5]) (j % 5) h5]
  exact List.getElem?_eq_getElem h5

theorem own_holds [Inhabited SmE] {w : World} {B g c : Nat} (d : Array SmE) (h : w.ownsRow B 56 5 (.slice (some ⟨g, 0, none⟩) d.size c) d.size (flatE (d.toList.map (·.1)))) : HoldsK encE 5 w g 0 d := by
  intro j hj
  rw [size_flatK] at hj
  refine ⟨?_, ?_⟩
  · rw [Nat.zero_add, h.cellAt j hj]
    exact flatK_nth d j hj
  · exact h.frozenAt _

theorem sort_own [Inhabited SmE] {w : World} {B g c n m : Nat} {xs : List Value} {d : Array SmE} {os : Array Obj} (h : w.ownsRow B 56 5 (.slice (some ⟨g, 0, none⟩) n c) n xs) (hd : d.size = n) :
    (sortWorldK encE 5 w g 0 m d os).ownsRow B 56 5 (.slice (some ⟨g, 0, none⟩) n c) n (flatE (d.toList.map (·.1))) ∧ w.grownBy (sortWorldK encE 5 w g 0 m d os) (some g) := by
  subst hd
  have hlt := (h.lt g rfl).2
  rcases h.2 with ⟨h', _⟩ | ⟨g', cap', cur, h', hb, hg, hnc, hcm, hcs, htake⟩
  · simp at h'
  · simp only [Value.slice.injEq, Option.some.injEq, Addr.mk.injEq, and_true, true_and] at h'
    obtain ⟨rfl, rfl⟩ := h'
    have hblk : ∀ k, k < w.heap.size → (sortWorldK encE 5 w g 0 m d os).heap[k]? = (w.heap.modify g (onCells (putCells id 0 (flatK encE 5 d))))[k]? := by
      intro k hk
      unfold sortWorldK
      rw [heap_grow_old _ _ (by simpa [putRowK, putRow, mapBlock, ahead] using hk)]
      rfl
    constructor
    · refine ⟨by rw [flatE_length]; simp, .inr ⟨g, c, putCells id 0 (flatK encE 5 d) cur, rfl, hb, ?_, hnc, hcm, by simpa [putCells] using hcs, ?_⟩⟩
      · rw [hblk g hlt, Array.getElem?_modify, if_pos rfl, hg]; rfl
      · apply List.ext_getElem?
        intro j
        rw [List.getElem?_take]
        by_cases hj : j < d.size * 5
        · rw [if_pos hj, flatK_nth d j hj, Array.getElem?_toList]
          have hjc : j < cur.size := by rw [hcs]; omega
          simp only [putCells, Array.getElem?_mapIdx, Array.getElem?_eq_getElem hjc, Option.map_some]
          rw [if_pos ⟨Nat.zero_le _, by rw [size_flatK]; omega⟩]; rfl
        · rw [if_neg hj, List.getElem?_eq_none]
          rw [flatE_length]; simpa using hj
    · refine ⟨rfl, rfl, rfl, ?_, ?_⟩
      · unfold sortWorldK
        rw [size_grow]
        simp [putRowK, putRow, mapBlock, ahead]
      · intro k hk hne
        rw [hblk k hk, Array.getElem?_modify, if_neg (fun e => hne (by rw [e]))]

set_option maxHeartbeats 1000000 in
theorem byPath_grow (x y : SmE) (w : World) :
    Calls Tryz.prog 195 #[.agg (encE x).toArray, .agg (encE y).toArray] w fun e w' => e = .returned (.int .i64 (cfE x y)) ∧ ∃ q os', w' = grow (w.drewN q) os' := by
  obtain ⟨⟨p, d, i, z, m⟩, h1⟩ := x
  obtain ⟨⟨q, d', i', z', m'⟩, h2⟩ := y
  have h1' : p.size ≤ 1500000 := h1
  have h2' : q.size ≤ 1500000 := h2
  show Calls Tryz.prog 195 #[.agg #[.string p, .bool d, .int .i64 i, .int .i64 z, .int .i64 m], .agg #[.string q, .bool d', .int .i64 i', .int .i64 z', .int .i64 m']] w fun e w' => e = .returned (.int .i64 (cmpL p.data.toList q.data.toList)) ∧ ∃ q os', w' = grow (w.drewN q) os'
  go_enter Tryz.func195, Tryz.ntmps195
  go_wp2_with (go_at_call 177; refine (compare_any p q _ (by omega) (by omega)).mono ?_; rintro e w1 ⟨rfl, nq, rfl⟩)
  go_ret
  exact ⟨rfl, nq, _, by rw [alloc_eq_grow, alloc_eq_grow, grow_grow]; rfl⟩

theorem sort_any (g c B : Nat) (L : List EntD) (w : World) (hl : L.length ≤ 1000) (hs : ∀ o ∈ L, o.small) (h : w.ownsRow B 56 5 (.slice (some ⟨g, 0, none⟩) L.length c) L.length (flatE L)) :
    Calls Tryz.prog 197 #[.slice (some ⟨g, 0, none⟩) L.length c, .func (.func 195) #[] #[]] w fun e w' => e = .returned (.tuple #[]) ∧ ∃ M : List EntD, M.Perm L ∧ (M.Pairwise fun a b => ¬ key b.pl < key a.pl) ∧ w'.ownsRow B 56 5 (.slice (some ⟨g, 0, none⟩) L.length c) L.length (flatE M) ∧ w.grownBy w' (some g) := by
  haveI : Inhabited SmE := ⟨⟨⟨⟨#[]⟩, false, 0, 0, 0⟩, Nat.zero_le _⟩⟩
  have eg : ∀ args w, (callFunc 195 args).run Tryz.prog w = .ok (.enter 195 args) w := enters_of Tryz.func195 (by kernel_rfl) rfl
  have hsz := smL_size L hs
  have hll := smL_list L hs
  generalize smL L hs = d at *
  have h0 := h
  rw [← hsz] at h
  rw [← hll] at h
  have hH := own_holds d h
  have hcon := AnyQ.slices_SortFunc Tryz.sortEnt 5 Tryz.isAgg56 Tryz.sizeOf56 encE encE_len encE_one cfE swoE 195 #[] g 0 c d w eg (fun _ _ _ _ x y => byPath_grow x y _) hH (h.lt g rfl).2 (by omega)
  change Calls Tryz.prog 197 _ _ _ at hcon
  rw [hsz] at hcon
  refine hcon.mono ?_
  rintro e w' ⟨rfl, d', n, os, hp, hso, rfl⟩
  have hd' : d'.size = L.length := by rw [hp.1, hsz]
  obtain ⟨s1, s2⟩ := sort_own (m := n) (os := os) h0 hd'
  refine ⟨rfl, d'.toList.map (·.1), ?_, ?_, s1, s2⟩
  · have := hp.2.2
    rw [← hll]
    rw [← hsz] at this
    refine List.Perm.map _ ?_
    have e1 : d'.extract 0 d.size = d' := by rw [show d.size = d'.size by omega]; exact Array.extract_size
    have e2 : d.extract 0 d.size = d := Array.extract_size
    rwa [e1, e2] at this
  · rw [List.pairwise_map, List.pairwise_iff_getElem]
    intro i j hi hj hij
    have hi' : i < d'.size := by simpa using hi
    have hj' : j < d'.size := by simpa using hj
    have := hso i j (Nat.zero_le _) hij (by omega)
    rw [getElem!_pos d' i hi', getElem!_pos d' j hj', ltE, decide_eq_false_iff_not] at this
    simpa using this
end Go.Proofs.YtpjjagalekolaaaGreatDoor

/- A volume in memory: all that is at a place or below it, elsewhere. -/
namespace Go.Proofs.YtpjjagalekolaaaGreatDoor
open Go.RowKit
set_option linter.unusedVariables false
set_option linter.unusedSimpArgs false

theorem flatE_setP (L : List EntD) (p : ByteArray) : ∀ (i : Nat) (h : i < L.length), flatE (L.set i { L[i] with path := p }) = (flatE L).set (i * 5) (.string p) := by
  induction L with
  | nil => intro i h; simp at h
  | cons o L ih =>
    intro i h
    cases i with
    | zero => simp [flatE, EntD.cells]
    | succ i =>
      have h' : i < L.length := by simpa using h
      have := ih i h'
      simp only [List.set_cons_succ, List.getElem_cons_succ]
      simp only [flatE, List.map_cons, List.flatten_cons] at *
      rw [this, List.set_append_right _ _ (by simp [EntD.cells]; omega)]
      congr 2
      simp [EntD.cells]; omega

/-- The first k of the entries moved, the others as they were. -/
def mvK (L : List EntD) (a t : BL) (k : Nat) : List EntD := (L.take k).map (movP a t) ++ L.drop k
theorem mvK_length (L : List EntD) (a t : BL) (k : Nat) : (mvK L a t k).length = L.length := by simp [mvK]; omega
theorem mvK_at (L : List EntD) (a t : BL) (k : Nat) (h : k < L.length) : (mvK L a t k)[k]'(by rw [mvK_length]; exact h) = L[k] := by
  unfold mvK
  rw [List.getElem_append_right (by simp; omega)]
  simp [Nat.min_eq_left (Nat.le_of_lt h)]
theorem mvK_succ (L : List EntD) (a t : BL) (k : Nat) (h : k < L.length) : mvK L a t (k + 1) = (mvK L a t k).set k (movP a t L[k]) := by
  unfold mvK
  rw [List.take_succ_eq_append_getElem h, List.set_append_right _ _ (by simp; omega), List.drop_eq_getElem_cons h]
  have : k - ((L.take k).map (movP a t)).length = 0 := by simp; omega
  rw [this, List.set_cons_zero, List.map_append, List.map_singleton, List.append_assoc]
  rfl
theorem mvK_zero (L : List EntD) (a t : BL) : mvK L a t 0 = L := by simp [mvK]
theorem mvK_all (L : List EntD) (a t : BL) (k : Nat) (h : L.length ≤ k) : mvK L a t k = L.map (movP a t) := by simp [mvK, List.take_of_length_le h, List.drop_eq_nil_of_le h]
theorem mvK_stay (L : List EntD) (a t : BL) (k : Nat) (h : k < L.length) (hm : mvB a L[k].pl = false) : mvK L a t (k + 1) = mvK L a t k := by
  rw [mvK_succ L a t k h, movP_stay hm, ← mvK_at L a t k h, List.set_getElem_self]
theorem movP_str (a t : ByteArray) (o : EntD) (h : mvB a.data.toList o.pl = true) : movP a.data.toList t.data.toList o = { o with path := t ++ o.path.extract a.size o.path.size } := by
  unfold movP
  rw [h, if_pos rfl]
  unfold EntD.withP
  congr 1
  apply ByteArray.ext
  apply Array.toList_inj.1
  simp only [EntD.pl, Lib.extract_data, ByteArray.data_append, Array.toList_append]
  congr 1
  simp
  rw [List.take_of_length_le]
  simp

theorem mv_size (a : ByteArray) (o : EntD) (h : mvB a.data.toList o.pl = true) : a.size ≤ o.path.size := by
  obtain ⟨s, h1, _⟩ := (mvB_iff _ _).1 h
  have := congrArg List.length h1
  simp [EntD.pl] at this
  omega

theorem toL (s : ByteArray) : s.toList = s.data.toList := ba_toList s

theorem sort_n (g c B n : Nat) (M : List EntD) (w : World) (hn : M.length = n) (hl : n ≤ 1000) (hs : ∀ o ∈ M, o.small) (h : w.ownsRow B 56 5 (.slice (some ⟨g, 0, none⟩) n c) n (flatE M)) :
    Calls Tryz.prog 197 #[.slice (some ⟨g, 0, none⟩) n c, .func (.func 195) #[] #[]] w fun e w' => e = .returned (.tuple #[]) ∧ ∃ R : List EntD, R.Perm M ∧ (R.Pairwise fun a b => ¬ key b.pl < key a.pl) ∧ w'.ownsRow B 56 5 (.slice (some ⟨g, 0, none⟩) n c) n (flatE R) ∧ w.grownBy w' (some g) := by
  subst hn
  exact sort_any g c B M w hl hs h

set_option maxHeartbeats 4000000 in
set_option maxRecDepth 100000 in
theorem vmoved {w : World} {vb b off cap : Nat} {L : List EntD} {fold : Bool} {space : Int} (hv : VolAt w vb (.slice (some ⟨b, off, none⟩) L.length cap) fold space) (hlb : b < w.heap.size) (hc : EntsAt w b off L) (hl : L.length ≤ 120) (hn : 0 < L.length) (hs : ∀ o ∈ L, o.small) (a t : ByteArray) (ha : a.size ≤ 1500000) (ht : t.size ≤ 1000) (hms : ∀ o ∈ L.map (movP a.data.toList t.data.toList), o.small) :
    Calls Tryz.prog 170 #[.pointer (some ⟨vb, 0, none⟩), .string a, .string t] w fun r w' => ∃ v M, r = .returned v ∧ M.Perm (L.map (movP a.data.toList t.data.toList)) ∧ (M.Pairwise fun a b => ¬ key b.pl < key a.pl) ∧ w'.ownsRow w.heap.size 56 5 v M.length (flatE M) ∧ Below w.heap.size w w' := by
  have HC := hidD (clone_row b off cap L w (by omega) hlb hc)
  have HS := hidD hs
  have c0 := hv.c0
  clear hc hs hv
  go_enter Tryz.func170, Tryz.ntmps170
  go_wp2_with (go_at_call 70; refine HC.out.mono ?_; rintro r w1 ⟨v1, rfl, hown1, hb1⟩; obtain ⟨g, c1, rfl⟩ := own_some hown1 hn)
  go_loopw [17] (fun i wr => ∃ k : Nat, k ≤ L.length ∧ i = .int .i64 k ∧ Hid (wr.ownsRow w.heap.size 56 5 (.slice (some ⟨g, 0, none⟩) L.length c1) L.length (flatE (mvK L a.data.toList t.data.toList k))) ∧ Hid (Below w.heap.size w wr)) (fun i _ => L.length - (intOf i).toNat)
  case atStart => exact ⟨0, Nat.zero_le _, rfl, hidD (by rw [mvK_zero]; exact hown1), hidD hb1⟩
  case round =>
    obtain ⟨k, hk, rfl, HO, HB⟩ := hrel
    by_cases hlt : k < L.length
    · have hso : L[k].path.size ≤ 1500000 := HS.out _ (List.getElem_mem hlt)
      have hML := mvK_length L a.data.toList t.data.toList k
      have hat := mvK_at L a.data.toList t.data.toList k hlt
      have hcell : ∀ j, j < 5 → wr.cell? ⟨g, k * 5 + j, none⟩ = L[k].cells[j]? := fun j hj => by
        rw [HO.out.cellAt (k * 5 + j) (by omega), flatE_get _ k (by rw [hML]; exact hlt) j hj, hat]
      have d0 : wr.cell? ⟨g, k * 5, none⟩ = some (.string L[k].path) := hcell 0 (by omega)
      have d1 : wr.cell? ⟨g, k * 5 + 1, none⟩ = some (.bool L[k].dir) := hcell 1 (by omega)
      have d2 : wr.cell? ⟨g, k * 5 + 2, none⟩ = some (.int .i64 L[k].id) := hcell 2 (by omega)
      have d3 : wr.cell? ⟨g, k * 5 + 3, none⟩ = some (.int .i64 L[k].size) := hcell 3 (by omega)
      have d4 : wr.cell? ⟨g, k * 5 + 4, none⟩ = some (.int .i64 L[k].mode) := hcell 4 (by omega)
      have HC0 : Hid ((flatE (mvK L a.data.toList t.data.toList k))[k * 5]? = some (.string L[k].path)) := by
        show (flatE (mvK L a.data.toList t.data.toList k))[k * 5]? = some (.string L[k].path)
        have := flatE_get (mvK L a.data.toList t.data.toList k) k (by rw [hML]; exact hlt) 0 (by omega)
        rw [Nat.add_zero] at this
        rw [this, hat]; rfl
      have hf0 := HO.out.frozenAt (k * 5)
      have hglt := (HO.out.lt g rfl).2
      have HSU := hidD (mvK_succ L a.data.toList t.data.toList k hlt)
      have HSY := hidD (fun h : mvB a.data.toList L[k].pl = false => mvK_stay L a.data.toList t.data.toList k hlt h)
      have HSET := hidD (fun p : ByteArray => flatE_setP (mvK L a.data.toList t.data.toList k) p k (by rw [hML]; exact hlt))
      have HMS := hidD (fun h : mvB a.data.toList L[k].pl = true => movP_str a t L[k] h)
      rw [hat] at HSET
      have hmsz := mv_size a L[k]
      have hmb : mvB a.data.toList L[k].pl = ((L[k].path.toList == a.toList) || belowL false L[k].path.data.toList a.data.toList) := by
        rw [toL L[k].path, toL a]; rfl
      clear hcell hat
      generalize L[k] = o at *
      have ST := hidD (Eb.start wr o)
      cases hm : mvB a.data.toList o.pl
      · rw [hm] at hmb
        have hmb' := hmb.symm
        rw [Bool.or_eq_false_iff] at hmb'
        obtain ⟨m1, m2⟩ := hmb'
        clear hmb hmsz
        go_wp2_with (go_at_call 165; refine (isBelow_bel o.path a false _ hso ha).mono ?_; rintro r w2 ⟨rfl, hb2⟩; rw [m2])
        exact ⟨⟨k + 1, by omega, by go_num, hidD (by rw [HSY.out hm]; exact own_below hb2 (HO.out.alloc _)), hidD (HB.out.trans ((ST.out.below hb2).bel.mono HB.out.size))⟩, by simp [intOf]; omega⟩
      · rw [hm] at hmb
        have hlen := hmsz hm
        clear hmsz
        have hlen' : (a.size : Int) ≤ (o.path.size : Int) := by omega
        have HFS : Hid (flatE (mvK L a.data.toList t.data.toList (k + 1)) = (flatE (mvK L a.data.toList t.data.toList k)).set (k * 5) (.string (t ++ o.path.extract a.size o.path.size))) := (congrArg flatE (HSU.out.trans (by rw [HMS.out hm]))).trans (HSET.out _)
        clear HSET HMS HSY HSU
        cases he : (o.path.toList == a.toList)
        · rw [he, Bool.false_or] at hmb
          have m2 := hmb.symm
          clear hmb
          go_wp2_with (go_at_call 165; refine (isBelow_bel o.path a false _ hso ha).mono ?_; rintro r w2 ⟨rfl, hb2⟩; rw [m2]; have s2 := ST.out.below hb2; have e0 := s2.cell 0; simp [EntD.cells] at e0; have o2 := own_below hb2 (HO.out.alloc _); have f2 := o2.frozenAt (k * 5); have x2 := (o2.cellAt (k * 5) (by omega)).trans HC0.out)
          obtain ⟨q1, q2⟩ := o2.stored (k * 5) (.string (t ++ o.path.extract a.size o.path.size))
          exact ⟨⟨k + 1, by omega, by go_num, hidD (by rw [HFS.out]; exact q1), hidD ((HB.out.trans (s2.bel.mono HB.out.size)).grown q2 (Nat.le_trans HB.out.size s2.bel.size) (fun q hq => (o2.lt q hq).1))⟩, by simp [intOf]; omega⟩
        · clear hmb
          have o2 := HO.out.alloc (.cells #[.string o.path, .bool o.dir, .int .i64 o.id, .int .i64 o.size, .int .i64 o.mode] 56)
          have f2 := o2.frozenAt (k * 5)
          have x2 := (o2.cellAt (k * 5) (by omega)).trans HC0.out
          go_wp2
          obtain ⟨q1, q2⟩ := HO.out.stored (k * 5) (.string (t ++ o.path.extract a.size o.path.size))
          have hb3 := HB.out.grown q2 HB.out.size (fun q hq => (HO.out.lt q hq).1)
          exact ⟨⟨k + 1, by omega, by go_num, hidD (by rw [HFS.out]; exact q1.alloc _), hidD (hb3.alloc hb3.size _)⟩, by simp [intOf]; omega⟩
    · have HA := hidD (mvK_all L a.data.toList t.data.toList k (by omega))
      have HQ := hidD (sort_n g c1 w.heap.size L.length (L.map (movP a.data.toList t.data.toList)) wr (by simp) (by omega) hms (by rw [← HA.out]; exact HO.out))
      clear HA
      have HNl : Hid ((L.map (movP a.data.toList t.data.toList)).length = L.length) := List.length_map ..
      have hbs := HB.out.size
      go_wp2_with (go_at_call 197; refine HQ.out.mono ?_; rintro r w3 ⟨rfl, M, hp, hso, hown, hg⟩)
      go_ret
      exact ⟨_, M, rfl, hp, hso, by rw [hp.length_eq, HNl.out]; exact hown, HB.out.grown hg hbs (fun q hq => (HO.out.lt q hq).1)⟩
end Go.Proofs.YtpjjagalekolaaaGreatDoor

/- A volume in memory: which entries it may hold; rename. -/
namespace Go.Proofs.YtpjjagalekolaaaGreatDoor
open Go.RowKit
set_option linter.unusedVariables false
set_option linter.unusedSimpArgs false

set_option maxHeartbeats 2000000 in
set_option maxRecDepth 100000 in
theorem mayHold_any (o : EntD) (w : World) (ho : o.small) :
    Calls Tryz.prog 116 #[.agg #[.string o.path, .bool o.dir, .int .i64 o.id, .int .i64 o.size, .int .i64 o.mode]] w fun e w' => e = .returned (.bool (holdB o)) ∧ Below w.heap.size w w' := by
  obtain ⟨p, d, i, z, m⟩ := o
  have ho' : p.size ≤ 1500000 := ho
  have HN := hidD (fun u => isNamed_any ⟨p, d, i, z, m⟩ u ho)
  have ST := hidD (Eb.start w ⟨p, d, i, z, m⟩)
  have HV : Hid (holdB ⟨p, d, i, z, m⟩ = (pathL p.data.toList || (!d && spareL p.data.toList))) := rfl
  dsimp only at HN ⊢
  clear ho
  cases hp : pathL p.data.toList
  all_goals rw [hp] at HN HV
  · cases d
    · go_enter Tryz.func116, Tryz.ntmps116
      go_wp2_with (first | (go_at_call 90; refine (HN.out _).mono ?_; rintro e w1 ⟨rfl, hb1⟩; have s1 := ST.out.below hb1; have e0 := s1.cell 0; have e1 := s1.cell 1; simp [EntD.cells] at e0 e1) | (go_at_call 161; refine (isSpare_any _ _ (by omega)).mono ?_; rintro e w2 ⟨rfl, rfl⟩))
      go_ret
      exact ⟨by rw [HV.out]; rfl, s1.bel⟩
    · go_enter Tryz.func116, Tryz.ntmps116
      go_wp2_with (first | (go_at_call 90; refine (HN.out _).mono ?_; rintro e w1 ⟨rfl, hb1⟩; have s1 := ST.out.below hb1; have e0 := s1.cell 0; have e1 := s1.cell 1; simp [EntD.cells] at e0 e1))
      go_ret
      exact ⟨by rw [HV.out]; rfl, s1.bel⟩
  · go_enter Tryz.func116, Tryz.ntmps116
    go_wp2_with (first | (go_at_call 90; refine (HN.out _).mono ?_; rintro e w1 ⟨rfl, hb1⟩; have s1 := ST.out.below hb1))
    go_ret
    exact ⟨by rw [HV.out]; rfl, s1.bel⟩

/-- Where something else is there: by places. -/
theorem ren_find {fold : Bool} {L : List EntD} (K : VolOk fold L) (t : BL) (i : Nat) (hi : i < L.length) :
    (L.any fun x => sameB fold x.pl t && !(x.pl == L[i].pl)) = (decide (atI fold L t < L.length) && decide (atI fold L t ≠ i)) := by
  by_cases hj : atI fold L t < L.length
  · have hs : sameB fold L[atI fold L t].pl t = true := by
      have := List.findIdx_getElem (p := isAt fold t) (w := hj)
      exact this
    by_cases he : atI fold L t = i
    · have : (L.any fun x => sameB fold x.pl t && !(x.pl == L[i].pl)) = false := by
        rw [List.any_eq_false]
        intro x hx h
        simp only [Bool.and_eq_true, Bool.not_eq_true', beq_eq_false_iff_ne] at h
        have h1 := K.one x hx _ (List.getElem_mem hj) (sameB_trans h.1 (sameB_symm hs))
        apply h.2
        rw [h1]
        congr 1
        simp [he]
      rw [this]; simp [he]
    · have : (L.any fun x => sameB fold x.pl t && !(x.pl == L[i].pl)) = true := by
        rw [List.any_eq_true]
        refine ⟨_, List.getElem_mem hj, ?_⟩
        simp only [hs, Bool.true_and, Bool.not_eq_true', beq_eq_false_iff_ne]
        intro e
        exact he (K.srt.inj _ _ hj hi e)
      rw [this]; simp [he, hj]
  · have : (L.any fun x => sameB fold x.pl t && !(x.pl == L[i].pl)) = false := by
      rw [List.any_eq_false]
      intro x hx h
      simp only [Bool.and_eq_true] at h
      apply hj
      rw [atI, List.findIdx_lt_length]
      exact ⟨x, hx, h.1⟩
    rw [this]; simp [hj]
theorem fstI_atI (fold : Bool) (L : List EntD) (p : BL) : fstI (isAt fold p) L = if atI fold L p < L.length then (atI fold L p : Int) else -1 := by
  rcases fstI_at fold L p with ⟨h1, h2⟩ | ⟨h0, h1, h2⟩
  · rw [h1, if_neg (by simpa using h2)]
  · rw [h1, if_pos h0]

/-- What rename tells ahead of the moving: the error, or the path as it stands here. -/
def preL (fold : Bool) (L : List EntD) (e : EntD) (t : BL) : Except Int BL :=
  if belowL fold t e.pl = true then .error 12
  else if (L.any fun x => sameB fold x.pl t && !(x.pl == e.pl)) = true then .error 8
  else match placeL fold L t with
    | none => .error 2
    | some p => .ok p
theorem renL_pre (fold : Bool) (L : List EntD) (e : EntD) (t : BL) : renL fold L e t = match preL fold L e t with | .error n => .error n | .ok p => if L.any (badX e p) = true then .error 1 else .ok (resR L e.pl p) := by
  unfold renL preL
  split
  · rfl
  · split
    · rfl
    · cases placeL fold L t <;> rfl
theorem mov_small {L : List EntD} {a t : BL} (hs : ∀ o ∈ L, o.pl.length ≤ 60) (ht : t.length ≤ 60) : ∀ o ∈ L.map (movP a t), o.small := by
  intro o ho
  obtain ⟨x, hx, rfl⟩ := List.mem_map.1 ho
  have := hs x hx
  show (movP a t x).path.size ≤ 1500000
  have e : (movP a t x).path.size = (movP a t x).pl.length := by simp [EntD.pl]
  rw [e]
  unfold movP
  split
  · rw [pl_withP]; simp; omega
  · omega

theorem pre_ren {fold : Bool} {L : List EntD} {e : EntD} {t p : BL} (he : e ∈ L) (hg : goodP t) (h : preL fold L e t = .ok p) : RenOk fold L e t p := by
  unfold preL at h
  split at h
  · cases h
  · next h1 =>
    split at h
    · cases h
    · next h2 =>
      cases hp : placeL fold L t with
      | none => rw [hp] at h; cases h
      | some q =>
        rw [hp] at h
        cases h
        exact ren_pre he h1 h2 hp hg
theorem pre_len {fold : Bool} {L : List EntD} {e : EntD} {t p : BL} (K : VolOk fold L) (R : RenOk fold L e t p) : p.length ≤ 60 := by
  obtain ⟨h1, h2⟩ := place_good K R.place R.good
  rcases R.good with h | h
  · exact path_len (h1 h)
  · rw [h2 h]; exact good_len (.inr h)

/-- moved, as rename calls it. -/
theorem vmovedR {w : World} {vb : Nat} {v : Value} {L : List EntD} {fold : Bool} {space : Int} (V : Vm w vb v L fold space) (K : VolOk fold L) (i : Nat) (hi : i < L.length) {t p : BL} (R : RenOk fold L L[i] t p) :
    Calls Tryz.prog 170 #[.pointer (some ⟨vb, 0, none⟩), .string L[i].path, .string (ofL p)] w fun r w' => ∃ v', r = .returned v' ∧ w'.ownsRow w.heap.size 56 5 v' (resR L L[i].pl p).length (flatE (resR L L[i].pl p)) ∧ Below w.heap.size w w' := by
  have hpl := pre_len K R
  have hlen : ∀ o ∈ L, o.pl.length ≤ 60 := fun o ho => good_len ((K.names o ho).imp id fun h => h.2)
  have hrow := V.row
  have ee : L[i].path.data.toList = L[i].pl := rfl
  have ep : (ofL p).data.toList = p := by simp [ofL]
  have es : (ofL p).size = p.length := by simp [ofL, ByteArray.size]
  cases hrow with
  | nil => simp at hi
  | row b off cap l hlb hc hm h =>
    have hmv := vmoved V.vol hlb h V.len (by omega) V.small L[i].path (ofL p) (V.small _ (List.getElem_mem hi)) (by omega) (by rw [ee, ep]; exact mov_small hlen hpl)
    rw [ee, ep] at hmv
    refine hmv.mono ?_
    rintro r w' ⟨v', M, rfl, hp, hso, hown, hb⟩
    have hM := res_sorted K R M hp hso
    subst hM
    exact ⟨v', rfl, hown, hb⟩
end Go.Proofs.YtpjjagalekolaaaGreatDoor

/- A volume in memory: rename. -/
namespace Go.Proofs.YtpjjagalekolaaaGreatDoor
open Go.RowKit
set_option linter.unusedVariables false
set_option linter.unusedSimpArgs false

set_option maxHeartbeats 4000000 in
set_option maxRecDepth 100000 in
theorem vrename {w : World} {vb : Nat} {v : Value} {L : List EntD} {fold : Bool} {space : Int} (V : Vm w vb v L fold space) (K : VolOk fold L) (o : OpD) (ho : o.small) (hg : goodP o.tl) :
    Calls Tryz.prog 127 #[.pointer (some ⟨vb, 0, none⟩), o.val] w fun r w' => Ans w.heap.size (match L[atI fold L o.pl]? with | none => .error 9 | some e => renL fold L e o.tl) r w' ∧ Below w.heap.size w w' := by
  have ST := hidD (Ob.start w o)
  have HF := hidD (fun (u : World) (hu : Below w.heap.size w u) => vfind (V.below hu).vol (V.below hu).row V.smallL o.path ho.1)
  have k1 := ST.out.cell 1
  simp [OpD.cells] at k1
  rw [show o.path.data.toList = o.pl from rfl] at HF
  rcases fstI_at fold L o.pl with ⟨hi, hf⟩ | ⟨hlt, hi, hf⟩
  · rw [hi] at HF
    rw [hf]
    unfold OpD.val Ans
    go_enter Tryz.func127, Tryz.ntmps127
    go_wp2_with (go_at_call 164; refine (HF.out _ ST.out.bel).mono ?_; rintro r w1 ⟨rfl, hb1⟩)
    go_ret2
    exact ⟨rfl, (ST.out.below hb1).bel⟩
  · have hsm : sameB fold L[atI fold L o.pl].pl o.pl = true := (atI_some hf).2.2
    rw [hi] at HF
    rw [hf]
    simp only
    have HV := hidD V.vol
    have hvlt := V.vol.lt
    have hll := V.len
    have ho1 : o.path.size ≤ 1500000 := ho.1
    have ho2 : o.dest.size ≤ 1500000 := ho.2
    have HBL : Hid (belowL fold o.dest.data.toList o.path.data.toList = belowL fold o.tl L[atI fold L o.pl].pl) := (belowL_same hsm).symm
    have HF2 := hidD (fun (u : World) (hu : Below w.heap.size w u) => vfind (V.below hu).vol (V.below hu).row V.smallL o.dest ho.2)
    have HP := hidD (fun (u : World) (hu : Below w.heap.size w u) => vplace (V.below hu).vol (V.below hu).row V.smallL o.dest ho.2)
    rw [show o.dest.data.toList = o.tl from rfl, fstI_atI] at HF2
    have hrf := ren_find K o.tl (atI fold L o.pl) hlt
    have HM := hidD (fun (p : BL) (h : preL fold L L[atI fold L o.pl] o.tl = .ok p) (u : World) (hu : Below w.heap.size w u) => vmovedR (V.below hu) K (atI fold L o.pl) hlt (pre_ren (List.getElem_mem hlt) hg h))
    have HH := hidD (fun (p : BL) (h : preL fold L L[atI fold L o.pl] o.tl = .ok p) => show (resR L L[atI fold L o.pl].pl p).all holdB = !(L.any (badX L[atI fold L o.pl] p)) by
      have R := pre_ren (List.getElem_mem hlt) hg h
      rw [← hold_bad K R]
      exact (res_perm L _ p).all_eq)
    have HSm := hidD (fun (p : BL) (h : preL fold L L[atI fold L o.pl] o.tl = .ok p) => show ∀ x ∈ resR L L[atI fold L o.pl].pl p, x.small by
      have R := pre_ren (List.getElem_mem hlt) hg h
      intro x hx
      exact mov_small (fun o ho => good_len ((K.names o ho).imp id fun h => h.2)) (pre_len K R) x ((res_perm L _ p).mem_iff.1 hx))
    have HLn := hidD (fun (p : BL) => show (resR L L[atI fold L o.pl].pl p).length = L.length by rw [(res_perm L _ p).length_eq]; simp)
    have hrow := V.row
    rw [renL_pre]
    clear V K
    generalize atI fold L o.pl = i at *
    generalize atI fold L o.tl = j at *
    unfold preL at *
    cases hb : belowL fold o.tl L[i].pl
    · rw [hb] at HBL
      rw [hrf] at HM HH HSm ⊢
      simp only [Bool.false_eq_true, if_false] at HM HH HSm ⊢
      clear hrf
      by_cases hj : j < L.length ∧ j ≠ i
      · rw [if_pos hj.1] at HF2
        have hji : ((j : Int) != (i : Int)) = true := by simp; omega
        simp only [hj.1, hj.2, ne_eq, not_false_eq_true, decide_true, Bool.and_self, if_true]
        clear HM HH HSm HP
        unfold OpD.val Ans
        go_enter Tryz.func127, Tryz.ntmps127
        go_wp2_with (go_at_call 164; refine (HF.out _ ST.out.bel).mono ?_; rintro r w1 ⟨rfl, hb1⟩; have s1 := ST.out.below hb1; have d1 := s1.cell 1; have d2 := s1.cell 2; simp [OpD.cells] at d1 d2; have c1 := (HV.out.below s1.bel hvlt).c1)
        go_region_held (fun u => u.cell? ⟨w.heap.size, 1, none⟩ = some (.string o.path) ∧ u.cell? ⟨w.heap.size, 2, none⟩ = some (.string o.dest) ∧ u.cell? ⟨vb, 1, none⟩ = some (.bool fold)) (go_keep) (first | (go_at_call 165; refine (isBelow_bel o.dest o.path fold _ ho2 ho1).mono ?_; rintro r w2 ⟨rfl, hb2⟩; rw [HBL.out]; have s2 := (s1.drewN 1).below hb2; have g1 := s2.cell 1; have g2 := s2.cell 2; simp [OpD.cells] at g1 g2; have f1 := (HV.out.below s2.bel hvlt).c1))
        all_goals go_wp2_with (go_at_call 164; refine (HF2.out _ s2.bel).mono ?_; rintro r w3 ⟨rfl, hb3⟩; have s3 := s2.below hb3; have e2 := s3.cell 2; simp [OpD.cells] at e2)
        all_goals go_ret2
        all_goals exact ⟨rfl, s3.bel⟩
      · have hjn : (decide (j < L.length) && decide (j ≠ i)) = false := by
          by_cases h1 : j < L.length
          · have h2 : j = i := by
              by_cases h3 : j = i
              · exact h3
              · exact absurd ⟨h1, h3⟩ hj
            simp [h2]
          · simp [h1]
        rw [hjn] at HM HH HSm ⊢
        simp only [Bool.false_eq_true, if_false] at HM HH HSm ⊢
        have hJ : (if j < L.length then (j : Int) else -1) = -1 ∨ ((if j < L.length then (j : Int) else -1) = i ∧ ((i : Int) != (i : Int)) = false) := by
          by_cases h1 : j < L.length
          · right
            rw [if_pos h1]
            refine ⟨?_, by simp⟩
            by_cases h3 : j = i
            · rw [h3]
            · exact absurd ⟨h1, h3⟩ hj
          · left; rw [if_neg h1]
        cases hpl : placeL fold L o.tl with
        | none =>
          have hA : plAns fold L o.dest = (⟨#[]⟩, 2) := by simp only [plAns, show o.dest.data.toList = o.tl from rfl, hpl]
          rw [hA] at HP
          clear HM HH HSm hpl
          simp only
          rcases hJ with hJ | ⟨hJ, hii⟩
          all_goals rw [hJ] at HF2
          all_goals unfold OpD.val Ans
          all_goals go_enter Tryz.func127, Tryz.ntmps127
          all_goals go_wp2_with (go_at_call 164; refine (HF.out _ ST.out.bel).mono ?_; rintro r w1 ⟨rfl, hb1⟩; have s1 := ST.out.below hb1; have d1 := s1.cell 1; have d2 := s1.cell 2; simp [OpD.cells] at d1 d2; have c1 := (HV.out.below s1.bel hvlt).c1)
          all_goals go_region_held (fun u => u.cell? ⟨w.heap.size, 1, none⟩ = some (.string o.path) ∧ u.cell? ⟨w.heap.size, 2, none⟩ = some (.string o.dest) ∧ u.cell? ⟨vb, 1, none⟩ = some (.bool fold)) (go_keep) (first | (go_at_call 165; refine (isBelow_bel o.dest o.path fold _ ho2 ho1).mono ?_; rintro r w2 ⟨rfl, hb2⟩; rw [HBL.out]; have s2 := (s1.drewN 1).below hb2; have g1 := s2.cell 1; have g2 := s2.cell 2; simp [OpD.cells] at g1 g2; have f1 := (HV.out.below s2.bel hvlt).c1))
          all_goals go_wp2_with (first | (go_at_call 164; refine (HF2.out _ s2.bel).mono ?_; rintro r w3 ⟨rfl, hb3⟩; have s3 := s2.below hb3; have e2 := s3.cell 2; simp [OpD.cells] at e2) | (go_at_call 169; refine (HP.out _ s3.bel).mono ?_; rintro r w4 ⟨rfl, hb4⟩; have s4 := s3.below hb4))
          all_goals go_ret2
          all_goals exact ⟨rfl, s4.bel⟩
        | some p =>
          have hA : plAns fold L o.dest = (ofL p, 0) := by simp only [plAns, show o.dest.data.toList = o.tl from rfl, hpl]
          rw [hA] at HP
          rw [hpl] at HM HH HSm
          have HM2 := hidD (HM.out p (by first | rfl | (rw [hb]; rfl)))
          have HH2 := hidD (HH.out p (by first | rfl | (rw [hb]; rfl)))
          have HS2 := hidD (HSm.out p (by first | rfl | (rw [hb]; rfl)))
          have hln := HLn.out p
          clear HM HH HSm hpl HLn
          simp only
          generalize resR L L[i].pl p = M at *
          generalize L.any (badX L[i] p) = B at *
          cases hrow with
          | nil => simp at hlt
          | row b off cap l hlb hc hm h =>
            have HC : Hid (∀ u : World, Below w.heap.size w u → u.cell? ⟨b, off + i * 5, none⟩ = some (.string L[i].path)) := fun u hu => (h.below hu hlb) i hlt 0 _ rfl
            clear h hsm hf hi hb
            generalize L[i].path = q at *
            generalize ofL p = pt at *
            unfold OpD.val
            generalize hX : (if B = true then (Except.error 1 : Except Int (List EntD)) else Except.ok M) = X
            have HX := hidD hX
            clear hX
            rcases hJ with hJ | ⟨hJ, hii⟩
            all_goals rw [hJ] at HF2
            all_goals clear hJ
            all_goals go_enter Tryz.func127, Tryz.ntmps127
            all_goals go_wp2_with (go_at_call 164; refine (HF.out _ ST.out.bel).mono ?_; rintro r w1 ⟨rfl, hb1⟩; have s1 := ST.out.below hb1; have d1 := s1.cell 1; have d2 := s1.cell 2; simp [OpD.cells] at d1 d2; have c1 := (HV.out.below s1.bel hvlt).c1)
            all_goals go_region_held (fun u => u.cell? ⟨w.heap.size, 1, none⟩ = some (.string o.path) ∧ u.cell? ⟨w.heap.size, 2, none⟩ = some (.string o.dest) ∧ u.cell? ⟨vb, 1, none⟩ = some (.bool fold)) (go_keep) (first | (go_at_call 165; refine (isBelow_bel o.dest o.path fold _ ho2 ho1).mono ?_; rintro r w2 ⟨rfl, hb2⟩; rw [HBL.out]; have s2 := (s1.drewN 1).below hb2; have g1 := s2.cell 1; have g2 := s2.cell 2; simp [OpD.cells] at g1 g2; have f1 := (HV.out.below s2.bel hvlt).c1))
            all_goals go_wp2_with (first | (go_at_call 164; refine (HF2.out _ s2.bel).mono ?_; rintro r w3 ⟨rfl, hb3⟩; have s3 := s2.below hb3; have e2 := s3.cell 2; simp [OpD.cells] at e2) | (go_at_call 169; refine (HP.out _ s3.bel).mono ?_; rintro r w4 ⟨rfl, hb4⟩; have s4 := s3.below hb4; have c0 := (HV.out.below s4.bel hvlt).c0; have cq := HC.out _ s4.bel) | (go_at_call 170; refine (HM2.out _ s4.bel).mono ?_; rintro r w5 ⟨v5, rfl, hown5, hb5⟩; have s5 := s4.below hb5; obtain ⟨g, c5, hv5⟩ := own_some hown5 (by omega); subst hv5))
            all_goals clear ST HF HF2 HP HM2 HC HV
            all_goals have S5 := hidD s5
            all_goals have O5 := hidD hown5
            all_goals have hs4 := s4.bel.size
            all_goals clear s1 s2 s3 s4 s5 hb1 hb2 hb3 hb4 hb5 hown5
            all_goals go_loopw [62] (fun kv wr => ∃ k : Nat, k ≤ M.length ∧ kv = .int .i64 k ∧ Hid ((M.take k).all holdB = true) ∧ Hid (Below w5.heap.size w5 wr)) (fun kv _ => M.length - (intOf kv).toNat)
            case atStart => exact ⟨0, Nat.zero_le _, rfl, hidD rfl, hidD (Below.refl _ _)⟩
            case atStart => exact ⟨0, Nat.zero_le _, rfl, hidD rfl, hidD (Below.refl _ _)⟩
            all_goals
              obtain ⟨k, hk, rfl, HD, HB⟩ := hrel
              by_cases hlk : k < M.length
              · have o6 := own_below HB.out O5.out
                have hcell : ∀ jj, jj < 5 → wr.cell? ⟨g, k * 5 + jj, none⟩ = M[k].cells[jj]? := fun jj hjj => by
                  rw [o6.cellAt (k * 5 + jj) (by omega), flatE_get _ k hlk jj hjj]
                have x0 : wr.cell? ⟨g, k * 5, none⟩ = some (.string M[k].path) := hcell 0 (by omega)
                have x1 : wr.cell? ⟨g, k * 5 + 1, none⟩ = some (.bool M[k].dir) := hcell 1 (by omega)
                have x2 : wr.cell? ⟨g, k * 5 + 2, none⟩ = some (.int .i64 M[k].id) := hcell 2 (by omega)
                have x3 : wr.cell? ⟨g, k * 5 + 3, none⟩ = some (.int .i64 M[k].size) := hcell 3 (by omega)
                have x4 : wr.cell? ⟨g, k * 5 + 4, none⟩ = some (.int .i64 M[k].mode) := hcell 4 (by omega)
                have HT : Hid ((M.take (k + 1)).all holdB = holdB M[k]) := by
                  show (M.take (k + 1)).all holdB = holdB M[k]
                  rw [List.take_succ_eq_append_getElem hlk, List.all_append, HD.out]; simp
                have HNO : Hid (holdB M[k] = false → B = true) := fun hf => by
                  have h1 : M.all holdB = false := by
                    cases hc : M.all holdB
                    · rfl
                    · rw [List.all_eq_true] at hc
                      have := hc _ (List.getElem_mem hlk)
                      rw [hf] at this; cases this
                  have h2 := HH2.out
                  rw [h1] at h2
                  cases B
                  · cases h2
                  · rfl
                have hsk := HS2.out _ (List.getElem_mem hlk)
                have HMH := hidD (fun u => mayHold_any M[k] u hsk)
                clear hcell o6
                generalize M[k] = x at *
                have SX := hidD (Eb.start wr x)
                cases hh : holdB x
                all_goals rw [hh] at HMH
                · go_wp2_with (go_at_call 116; refine (HMH.out _).mono ?_; rintro r w7 ⟨rfl, hb7⟩)
                  go_ret2
                  refine ⟨?_, (S5.out.below (HB.out.trans ((SX.out.below hb7).bel.mono HB.out.size))).bel⟩
                  have hBT := HNO.out (by first | exact hh | trivial)
                  have hX := HX.out
                  rw [hBT, if_pos rfl] at hX
                  rw [← hX]
                  rfl
                · go_wp2_with (go_at_call 116; refine (HMH.out _).mono ?_; rintro r w7 ⟨rfl, hb7⟩)
                  exact ⟨⟨k + 1, by omega, by go_num, hidD (by rw [HT.out]; exact hh), hidD (HB.out.trans ((SX.out.below hb7).bel.mono HB.out.size))⟩, by simp [intOf]; omega⟩
              · have HBF : Hid (B = false) := by
                  show B = false
                  have h1 := HD.out
                  rw [List.take_of_length_le (by omega), HH2.out] at h1
                  cases B
                  · rfl
                  · cases h1
                go_wp2
                go_ret2
                refine ⟨?_, (S5.out.below HB.out).bel⟩
                have hX := HX.out
                rw [HBF.out, if_neg (by decide)] at hX
                rw [← hX]
                have h9 := own_mono (own_below HB.out O5.out) hs4
                rw [hln] at h9
                refine ⟨_, rfl, ?_⟩
                rw [hln]
                exact h9
    · rw [hb] at HBL
      simp only [if_true]
      clear HM HH HSm HP HF2
      unfold OpD.val Ans
      go_enter Tryz.func127, Tryz.ntmps127
      go_wp2_with (go_at_call 164; refine (HF.out _ ST.out.bel).mono ?_; rintro r w1 ⟨rfl, hb1⟩; have s1 := ST.out.below hb1; have d1 := s1.cell 1; have d2 := s1.cell 2; simp [OpD.cells] at d1 d2; have c1 := (HV.out.below s1.bel hvlt).c1)
      go_region_held (fun u => u.cell? ⟨w.heap.size, 1, none⟩ = some (.string o.path) ∧ u.cell? ⟨w.heap.size, 2, none⟩ = some (.string o.dest) ∧ u.cell? ⟨vb, 1, none⟩ = some (.bool fold)) (go_keep) (first | (go_at_call 165; refine (isBelow_bel o.dest o.path fold _ ho2 ho1).mono ?_; rintro r w2 ⟨rfl, hb2⟩; rw [HBL.out]; have s2 := (s1.drewN 1).below hb2; have g1 := s2.cell 1; have g2 := s2.cell 2; simp [OpD.cells] at g1 g2; have f1 := (HV.out.below s2.bel hvlt).c1))
      all_goals go_wp2
      all_goals go_ret2
      all_goals exact ⟨rfl, s2.bel⟩
end Go.Proofs.YtpjjagalekolaaaGreatDoor

