/- VU, VV, VW, VX, VY, VZ, VZ1, VZ2, HB, WB, WC, WD: in one text. -/
import Derived.Test.YtemkpollilhmjaaGreatDoorU14
import Derived.Test.YtemkpollilhmjaaGreatDoorU15Sort
import Derived.Test.YtemkpollilhmjaaGreatDoorU08
import Derived.Deep.RegionWith
/- The library's SortFunc at entries, by their paths. -/
namespace Go.Proofs.YtemkpollilhmjaaGreatDoor
open Go.RowKit Go.Sort
set_option linter.unusedVariables false
set_option linter.unusedSimpArgs false

/-- An entry whose path is not too long. -/
abbrev SmE : Type := { o : EntD // o.small }
def encE (x : SmE) : List Value := x.1.cells
def cfE (x y : SmE) : Int := cmpL x.1.pl y.1.pl
theorem encE_len (x : SmE) : (encE x).length = 5 := by simp [encE, EntD.cells]
theorem encE_one (x : SmE) : ∀ v ∈ encE x, v.oneCell' = true := by
  intro v hv
  simp [encE, EntD.cells] at hv
  rcases hv with rfl | rfl | rfl | rfl | rfl <;> rfl
theorem ltE (x y : SmE) : ltOf cfE x y = decide (key x.1.pl < key y.1.pl) := by
  unfold ltOf cfE
  rw [decide_eq_decide]
  exact (cmpL_key _ _).1
theorem swoE : SWO (ltOf cfE) where
  irrefl x := by rw [ltE, decide_eq_false_iff_not]; exact List.lt_irrefl _
  trans x y z h1 h2 := by
    rw [ltE, decide_eq_true_eq] at *
    exact List.lt_trans h1 h2
  ntrans x y z h1 h2 := by
    rw [ltE, decide_eq_false_iff_not, List.not_lt] at *
    exact List.le_trans h2 h1

def smL (L : List EntD) (h : ∀ o ∈ L, o.small) : Array SmE := (L.attach.map fun x => (⟨x.1, h x.1 x.2⟩ : SmE)).toArray
theorem smL_size (L : List EntD) (h : ∀ o ∈ L, o.small) : (smL L h).size = L.length := by simp [smL]
theorem smL_list (L : List EntD) (h : ∀ o ∈ L, o.small) : (smL L h).toList.map (·.1) = L := by
  simp [smL, Function.comp_def]
theorem flatE_nth (L : List EntD) (j : Nat) (hj : j < L.length * 5) : (flatE L)[j]? = (L[j / 5]'(by omega)).cells[j % 5]? := by
  have := flatE_get L (j / 5) (by omega) (j % 5) (by omega)
  rwa [show j / 5 * 5 + j % 5 = j by omega] at this
theorem flatK_nth [Inhabited SmE] (d : Array SmE) (j : Nat) (hj : j < d.size * 5) : (flatE (d.toList.map (·.1)))[j]? = some (flatK encE 5 d)[j]! := by
  rw [get_flatK _ _ _ _ hj, flatE_nth _ _ (by simpa using hj)]
  have hq : j / 5 < d.size := by omega
  rw [getElem!_pos d (j / 5) hq]
  simp only [List.getElem_map, Array.getElem_toList]
  have h5 : j % 5 < (encE d[j / 5]).length := by rw [encE_len]; omega
  rw [getElem!_pos (encE d[j / 5]) (j % 5) h5]
  exact List.getElem?_eq_getElem h5

theorem own_holds [Inhabited SmE] {w : World} {B g c : Nat} (d : Array SmE) (h : w.ownsRow B 54 5 (.slice (some ⟨g, 0, none⟩) d.size c) d.size (flatE (d.toList.map (·.1)))) : HoldsK encE 5 w g 0 d := by
  intro j hj
  rw [size_flatK] at hj
  refine ⟨?_, ?_⟩
  · rw [Nat.zero_add, h.cellAt j hj]
    exact flatK_nth d j hj
  · exact h.frozenAt _

theorem sort_own [Inhabited SmE] {w : World} {B g c n m : Nat} {xs : List Value} {d : Array SmE} {os : Array Obj} (h : w.ownsRow B 54 5 (.slice (some ⟨g, 0, none⟩) n c) n xs) (hd : d.size = n) :
    (sortWorldK encE 5 w g 0 m d os).ownsRow B 54 5 (.slice (some ⟨g, 0, none⟩) n c) n (flatE (d.toList.map (·.1))) ∧ w.grownBy (sortWorldK encE 5 w g 0 m d os) (some g) := by
  subst hd
  have hlt := (h.lt g rfl).2
  rcases h.2 with ⟨h', _⟩ | ⟨g', cap', cur, h', hb, hg, hnc, hcm, hcs, htake⟩
  · simp at h'
  · simp only [Value.slice.injEq, Option.some.injEq, Addr.mk.injEq, and_true, true_and] at h'
    obtain ⟨rfl, rfl⟩ := h'
    have hblk : ∀ k, k < w.heap.size → (sortWorldK encE 5 w g 0 m d os).heap[k]? = (w.heap.modify g (onCells (putCells id 0 (flatK encE 5 d))))[k]? := by
      intro k hk
      unfold sortWorldK
      rw [heap_grow_old _ _ (by simpa [putRowK, putRow, mapBlock, ahead] using hk)]
      rfl
    constructor
    · refine ⟨by rw [flatE_length]; simp, .inr ⟨g, c, putCells id 0 (flatK encE 5 d) cur, rfl, hb, ?_, hnc, hcm, by simpa [putCells] using hcs, ?_⟩⟩
      · rw [hblk g hlt, Array.getElem?_modify, if_pos rfl, hg]; rfl
      · apply List.ext_getElem?
        intro j
        rw [List.getElem?_take]
        by_cases hj : j < d.size * 5
        · rw [if_pos hj, flatK_nth d j hj, Array.getElem?_toList]
          have hjc : j < cur.size := by rw [hcs]; omega
          simp only [putCells, Array.getElem?_mapIdx, Array.getElem?_eq_getElem hjc, Option.map_some]
          rw [if_pos ⟨Nat.zero_le _, by rw [size_flatK]; omega⟩]; rfl
        · rw [if_neg hj, List.getElem?_eq_none]
          rw [flatE_length]; simpa using hj
    · refine ⟨rfl, rfl, rfl, ?_, ?_⟩
      · unfold sortWorldK
        rw [size_grow]
        simp [putRowK, putRow, mapBlock, ahead]
      · intro k hk hne
        rw [hblk k hk, Array.getElem?_modify, if_neg (fun e => hne (by rw [e]))]

set_option maxHeartbeats 1000000 in
theorem byPath_grow (x y : SmE) (w : World) :
    Calls Tryz.prog 143 #[.agg (encE x).toArray, .agg (encE y).toArray] w fun e w' => e = .returned (.int .i64 (cfE x y)) ∧ ∃ q os', w' = grow (w.drewN q) os' := by
  obtain ⟨⟨p, d, i, z, m⟩, h1⟩ := x
  obtain ⟨⟨q, d', i', z', m'⟩, h2⟩ := y
  have h1' : p.size ≤ 1500000 := h1
  have h2' : q.size ≤ 1500000 := h2
  show Calls Tryz.prog 143 #[.agg #[.string p, .bool d, .int .i64 i, .int .i64 z, .int .i64 m], .agg #[.string q, .bool d', .int .i64 i', .int .i64 z', .int .i64 m']] w fun e w' => e = .returned (.int .i64 (cmpL p.data.toList q.data.toList)) ∧ ∃ q os', w' = grow (w.drewN q) os'
  go_enter Tryz.func143, Tryz.ntmps143
  go_wp2_with (go_at_call 49; refine (compare_any p q _ (by omega) (by omega)).mono ?_; rintro e w1 ⟨rfl, nq, rfl⟩)
  go_ret
  exact ⟨rfl, nq, _, by rw [alloc_eq_grow, alloc_eq_grow, grow_grow]; rfl⟩

theorem sort_any (g c B : Nat) (L : List EntD) (w : World) (hl : L.length ≤ 1000) (hs : ∀ o ∈ L, o.small) (h : w.ownsRow B 54 5 (.slice (some ⟨g, 0, none⟩) L.length c) L.length (flatE L)) :
    Calls Tryz.prog 145 #[.slice (some ⟨g, 0, none⟩) L.length c, .func (.func 143) #[] #[]] w fun e w' => e = .returned (.tuple #[]) ∧ ∃ M : List EntD, M.Perm L ∧ (M.Pairwise fun a b => ¬ key b.pl < key a.pl) ∧ w'.ownsRow B 54 5 (.slice (some ⟨g, 0, none⟩) L.length c) L.length (flatE M) ∧ w.grownBy w' (some g) := by
  haveI : Inhabited SmE := ⟨⟨⟨⟨#[]⟩, false, 0, 0, 0⟩, Nat.zero_le _⟩⟩
  have eg : ∀ args w, (callFunc 143 args).run Tryz.prog w = .ok (.enter 143 args) w := enters_of Tryz.func143 (by kernel_rfl) rfl
  have hsz := smL_size L hs
  have hll := smL_list L hs
  generalize smL L hs = d at *
  have h0 := h
  rw [← hsz] at h
  rw [← hll] at h
  have hH := own_holds d h
  have hcon := AnyQ.slices_SortFunc Tryz.sortEnt 5 Tryz.isAgg54 Tryz.sizeOf54 encE encE_len encE_one cfE swoE 143 #[] g 0 c d w eg (fun _ _ _ _ x y => byPath_grow x y _) hH (h.lt g rfl).2 (by omega)
  change Calls Tryz.prog 145 _ _ _ at hcon
  rw [hsz] at hcon
  refine hcon.mono ?_
  rintro e w' ⟨rfl, d', n, os, hp, hso, rfl⟩
  have hd' : d'.size = L.length := by rw [hp.1, hsz]
  obtain ⟨s1, s2⟩ := sort_own (m := n) (os := os) h0 hd'
  refine ⟨rfl, d'.toList.map (·.1), ?_, ?_, s1, s2⟩
  · have := hp.2.2
    rw [← hll]
    rw [← hsz] at this
    refine List.Perm.map _ ?_
    have e1 : d'.extract 0 d.size = d' := by rw [show d.size = d'.size by omega]; exact Array.extract_size
    have e2 : d.extract 0 d.size = d := Array.extract_size
    rwa [e1, e2] at this
  · rw [List.pairwise_map, List.pairwise_iff_getElem]
    intro i j hi hj hij
    have hi' : i < d'.size := by simpa using hi
    have hj' : j < d'.size := by simpa using hj
    have := hso i j (Nat.zero_le _) hij (by omega)
    rw [getElem!_pos d' i hi', getElem!_pos d' j hj', ltE, decide_eq_false_iff_not] at this
    simpa using this
end Go.Proofs.YtemkpollilhmjaaGreatDoor

/- A volume in memory: all that is at a place or below it, elsewhere. -/
namespace Go.Proofs.YtemkpollilhmjaaGreatDoor
open Go.RowKit
set_option linter.unusedVariables false
set_option linter.unusedSimpArgs false

theorem flatE_setP (L : List EntD) (p : ByteArray) : ∀ (i : Nat) (h : i < L.length), flatE (L.set i { L[i] with path := p }) = (flatE L).set (i * 5) (.string p) := by
  induction L with
  | nil => intro i h; simp at h
  | cons o L ih =>
    intro i h
    cases i with
    | zero => simp [flatE, EntD.cells]
    | succ i =>
      have h' : i < L.length := by simpa using h
      have := ih i h'
      simp only [List.set_cons_succ, List.getElem_cons_succ]
      simp only [flatE, List.map_cons, List.flatten_cons] at *
      rw [this, List.set_append_right _ _ (by simp [EntD.cells]; omega)]
      congr 2
      simp [EntD.cells]; omega

/-- The first k of the entries moved, the others as they were. -/
def mvK (L : List EntD) (a t : BL) (k : Nat) : List EntD := (L.take k).map (movP a t) ++ L.drop k
theorem mvK_length (L : List EntD) (a t : BL) (k : Nat) : (mvK L a t k).length = L.length := by simp [mvK]; omega
theorem mvK_at (L : List EntD) (a t : BL) (k : Nat) (h : k < L.length) : (mvK L a t k)[k]'(by rw [mvK_length]; exact h) = L[k] := by
  unfold mvK
  rw [List.getElem_append_right (by simp; omega)]
  simp [Nat.min_eq_left (Nat.le_of_lt h)]
theorem mvK_succ (L : List EntD) (a t : BL) (k : Nat) (h : k < L.length) : mvK L a t (k + 1) = (mvK L a t k).set k (movP a t L[k]) := by
  unfold mvK
  rw [List.take_succ_eq_append_getElem h, List.set_append_right _ _ (by simp; omega), List.drop_eq_getElem_cons h]
  have : k - ((L.take k).map (movP a t)).length = 0 := by simp; omega
  rw [this, List.set_cons_zero, List.map_append, List.map_singleton, List.append_assoc]
  rfl
theorem mvK_zero (L : List EntD) (a t : BL) : mvK L a t 0 = L := by simp [mvK]
theorem mvK_all (L : List EntD) (a t : BL) (k : Nat) (h : L.length ≤ k) : mvK L a t k = L.map (movP a t) := by simp [mvK, List.take_of_length_le h, List.drop_eq_nil_of_le h]
theorem mvK_stay (L : List EntD) (a t : BL) (k : Nat) (h : k < L.length) (hm : mvB a L[k].pl = false) : mvK L a t (k + 1) = mvK L a t k := by
  rw [mvK_succ L a t k h, movP_stay hm, ← mvK_at L a t k h, List.set_getElem_self]
theorem movP_str (a t : ByteArray) (o : EntD) (h : mvB a.data.toList o.pl = true) : movP a.data.toList t.data.toList o = { o with path := t ++ o.path.extract a.size o.path.size } := by
  unfold movP
  rw [h, if_pos rfl]
  unfold EntD.withP
  congr 1
  apply ByteArray.ext
  apply Array.toList_inj.1
  simp only [EntD.pl, Lib.extract_data, ByteArray.data_append, Array.toList_append]
  congr 1
  simp
  rw [List.take_of_length_le]
  simp

theorem mv_size (a : ByteArray) (o : EntD) (h : mvB a.data.toList o.pl = true) : a.size ≤ o.path.size := by
  obtain ⟨s, h1, _⟩ := (mvB_iff _ _).1 h
  have := congrArg List.length h1
  simp [EntD.pl] at this
  omega

theorem toL (s : ByteArray) : s.toList = s.data.toList := ba_toList s

theorem sort_n (g c B n : Nat) (M : List EntD) (w : World) (hn : M.length = n) (hl : n ≤ 1000) (hs : ∀ o ∈ M, o.small) (h : w.ownsRow B 54 5 (.slice (some ⟨g, 0, none⟩) n c) n (flatE M)) :
    Calls Tryz.prog 145 #[.slice (some ⟨g, 0, none⟩) n c, .func (.func 143) #[] #[]] w fun e w' => e = .returned (.tuple #[]) ∧ ∃ R : List EntD, R.Perm M ∧ (R.Pairwise fun a b => ¬ key b.pl < key a.pl) ∧ w'.ownsRow B 54 5 (.slice (some ⟨g, 0, none⟩) n c) n (flatE R) ∧ w.grownBy w' (some g) := by
  subst hn
  exact sort_any g c B M w hl hs h

set_option maxHeartbeats 4000000 in
set_option maxRecDepth 100000 in
theorem vmoved {w : World} {vb b off cap : Nat} {L : List EntD} {fold : Bool} {space : Int} (hv : VolAt w vb (.slice (some ⟨b, off, none⟩) L.length cap) fold space) (hlb : b < w.heap.size) (hc : EntsAt w b off L) (hl : L.length ≤ 120) (hn : 0 < L.length) (hs : ∀ o ∈ L, o.small) (a t : ByteArray) (ha : a.size ≤ 1500000) (ht : t.size ≤ 1000) (hms : ∀ o ∈ L.map (movP a.data.toList t.data.toList), o.small) :
    Calls Tryz.prog 133 #[.pointer (some ⟨vb, 0, none⟩), .string a, .string t] w fun r w' => ∃ v M, r = .returned v ∧ M.Perm (L.map (movP a.data.toList t.data.toList)) ∧ (M.Pairwise fun a b => ¬ key b.pl < key a.pl) ∧ w'.ownsRow w.heap.size 54 5 v M.length (flatE M) ∧ Below w.heap.size w w' := by
  have HC := hidD (clone_row b off cap L w (by omega) hlb hc)
  have HS := hidD hs
  have c0 := hv.c0
  clear hc hs hv
  go_enter Tryz.func133, Tryz.ntmps133
  go_wp2_with (go_at_call 32; refine HC.out.mono ?_; rintro r w1 ⟨v1, rfl, hown1, hb1⟩; obtain ⟨g, c1, rfl⟩ := own_some hown1 hn)
  go_loopw [17] (fun i wr => ∃ k : Nat, k ≤ L.length ∧ i = .int .i64 k ∧ Hid (wr.ownsRow w.heap.size 54 5 (.slice (some ⟨g, 0, none⟩) L.length c1) L.length (flatE (mvK L a.data.toList t.data.toList k))) ∧ Hid (Below w.heap.size w wr)) (fun i _ => L.length - (intOf i).toNat)
  case atStart => exact ⟨0, Nat.zero_le _, rfl, hidD (by rw [mvK_zero]; exact hown1), hidD hb1⟩
  case round =>
    obtain ⟨k, hk, rfl, HO, HB⟩ := hrel
    by_cases hlt : k < L.length
    · have hso : L[k].path.size ≤ 1500000 := HS.out _ (List.getElem_mem hlt)
      have hML := mvK_length L a.data.toList t.data.toList k
      have hat := mvK_at L a.data.toList t.data.toList k hlt
      have hcell : ∀ j, j < 5 → wr.cell? ⟨g, k * 5 + j, none⟩ = L[k].cells[j]? := fun j hj => by
        rw [HO.out.cellAt (k * 5 + j) (by omega), flatE_get _ k (by rw [hML]; exact hlt) j hj, hat]
      have d0 : wr.cell? ⟨g, k * 5, none⟩ = some (.string L[k].path) := hcell 0 (by omega)
      have d1 : wr.cell? ⟨g, k * 5 + 1, none⟩ = some (.bool L[k].dir) := hcell 1 (by omega)
      have d2 : wr.cell? ⟨g, k * 5 + 2, none⟩ = some (.int .i64 L[k].id) := hcell 2 (by omega)
      have d3 : wr.cell? ⟨g, k * 5 + 3, none⟩ = some (.int .i64 L[k].size) := hcell 3 (by omega)
      have d4 : wr.cell? ⟨g, k * 5 + 4, none⟩ = some (.int .i64 L[k].mode) := hcell 4 (by omega)
      have HC0 : Hid ((flatE (mvK L a.data.toList t.data.toList k))[k * 5]? = some (.string L[k].path)) := by
        show (flatE (mvK L a.data.toList t.data.toList k))[k * 5]? = some (.string L[k].path)
        have := flatE_get (mvK L a.data.toList t.data.toList k) k (by rw [hML]; exact hlt) 0 (by omega)
        rw [Nat.add_zero] at this
        rw [this, hat]; rfl
      have hf0 := HO.out.frozenAt (k * 5)
      have hglt := (HO.out.lt g rfl).2
      have HSU := hidD (mvK_succ L a.data.toList t.data.toList k hlt)
      have HSY := hidD (fun h : mvB a.data.toList L[k].pl = false => mvK_stay L a.data.toList t.data.toList k hlt h)
      have HSET := hidD (fun p : ByteArray => flatE_setP (mvK L a.data.toList t.data.toList k) p k (by rw [hML]; exact hlt))
      have HMS := hidD (fun h : mvB a.data.toList L[k].pl = true => movP_str a t L[k] h)
      rw [hat] at HSET
      have hmsz := mv_size a L[k]
      have hmb : mvB a.data.toList L[k].pl = ((L[k].path.toList == a.toList) || belowL false L[k].path.data.toList a.data.toList) := by
        rw [toL L[k].path, toL a]; rfl
      clear hcell hat
      generalize L[k] = o at *
      have ST := hidD (Eb.start wr o)
      cases hm : mvB a.data.toList o.pl
      · rw [hm] at hmb
        have hmb' := hmb.symm
        rw [Bool.or_eq_false_iff] at hmb'
        obtain ⟨m1, m2⟩ := hmb'
        clear hmb hmsz
        go_wp2_with (go_at_call 128; refine (isBelow_bel o.path a false _ hso ha).mono ?_; rintro r w2 ⟨rfl, hb2⟩; rw [m2])
        exact ⟨⟨k + 1, by omega, by go_num, hidD (by rw [HSY.out hm]; exact own_below hb2 (HO.out.alloc _)), hidD (HB.out.trans ((ST.out.below hb2).bel.mono HB.out.size))⟩, by simp [intOf]; omega⟩
      · rw [hm] at hmb
        have hlen := hmsz hm
        clear hmsz
        have hlen' : (a.size : Int) ≤ (o.path.size : Int) := by omega
        have HFS : Hid (flatE (mvK L a.data.toList t.data.toList (k + 1)) = (flatE (mvK L a.data.toList t.data.toList k)).set (k * 5) (.string (t ++ o.path.extract a.size o.path.size))) := (congrArg flatE (HSU.out.trans (by rw [HMS.out hm]))).trans (HSET.out _)
        clear HSET HMS HSY HSU
        cases he : (o.path.toList == a.toList)
        · rw [he, Bool.false_or] at hmb
          have m2 := hmb.symm
          clear hmb
          go_wp2_with (go_at_call 128; refine (isBelow_bel o.path a false _ hso ha).mono ?_; rintro r w2 ⟨rfl, hb2⟩; rw [m2]; have s2 := ST.out.below hb2; have e0 := s2.cell 0; simp [EntD.cells] at e0; have o2 := own_below hb2 (HO.out.alloc _); have f2 := o2.frozenAt (k * 5); have x2 := (o2.cellAt (k * 5) (by omega)).trans HC0.out)
          obtain ⟨q1, q2⟩ := o2.stored (k * 5) (.string (t ++ o.path.extract a.size o.path.size))
          exact ⟨⟨k + 1, by omega, by go_num, hidD (by rw [HFS.out]; exact q1), hidD ((HB.out.trans (s2.bel.mono HB.out.size)).grown q2 (Nat.le_trans HB.out.size s2.bel.size) (fun q hq => (o2.lt q hq).1))⟩, by simp [intOf]; omega⟩
        · clear hmb
          have o2 := HO.out.alloc (.cells #[.string o.path, .bool o.dir, .int .i64 o.id, .int .i64 o.size, .int .i64 o.mode] 54)
          have f2 := o2.frozenAt (k * 5)
          have x2 := (o2.cellAt (k * 5) (by omega)).trans HC0.out
          go_wp2
          obtain ⟨q1, q2⟩ := HO.out.stored (k * 5) (.string (t ++ o.path.extract a.size o.path.size))
          have hb3 := HB.out.grown q2 HB.out.size (fun q hq => (HO.out.lt q hq).1)
          exact ⟨⟨k + 1, by omega, by go_num, hidD (by rw [HFS.out]; exact q1.alloc _), hidD (hb3.alloc hb3.size _)⟩, by simp [intOf]; omega⟩
    · have HA := hidD (mvK_all L a.data.toList t.data.toList k (by omega))
      have HQ := hidD (sort_n g c1 w.heap.size L.length (L.map (movP a.data.toList t.data.toList)) wr (by simp) (by omega) hms (by rw [← HA.out]; exact HO.out))
      clear HA
      have HNl : Hid ((L.map (movP a.data.toList t.data.toList)).length = L.length) := List.length_map ..
      have hbs := HB.out.size
      go_wp2_with (go_at_call 145; refine HQ.out.mono ?_; rintro r w3 ⟨rfl, M, hp, hso, hown, hg⟩)
      go_ret
      exact ⟨_, M, rfl, hp, hso, by rw [hp.length_eq, HNl.out]; exact hown, HB.out.grown hg hbs (fun q hq => (HO.out.lt q hq).1)⟩
end Go.Proofs.YtemkpollilhmjaaGreatDoor

/- A volume in memory: which entries it may hold; rename. -/
namespace Go.Proofs.YtemkpollilhmjaaGreatDoor
open Go.RowKit
set_option linter.unusedVariables false
set_option linter.unusedSimpArgs false

set_option maxHeartbeats 2000000 in
set_option maxRecDepth 100000 in
theorem mayHold_any (o : EntD) (w : World) (ho : o.small) :
    Calls Tryz.prog 52 #[.agg #[.string o.path, .bool o.dir, .int .i64 o.id, .int .i64 o.size, .int .i64 o.mode]] w fun e w' => e = .returned (.bool (holdB o)) ∧ Below w.heap.size w w' := by
  obtain ⟨p, d, i, z, m⟩ := o
  have ho' : p.size ≤ 1500000 := ho
  have HN := hidD (fun u => isNamed_any ⟨p, d, i, z, m⟩ u ho)
  have ST := hidD (Eb.start w ⟨p, d, i, z, m⟩)
  have HV : Hid (holdB ⟨p, d, i, z, m⟩ = (pathL p.data.toList || (!d && spareL p.data.toList))) := rfl
  dsimp only at HN ⊢
  clear ho
  cases hp : pathL p.data.toList
  all_goals rw [hp] at HN HV
  · cases d
    · go_enter Tryz.func52, Tryz.ntmps52
      go_wp2_with (first | (go_at_call 70; refine (HN.out _).mono ?_; rintro e w1 ⟨rfl, hb1⟩; have s1 := ST.out.below hb1; have e0 := s1.cell 0; have e1 := s1.cell 1; simp [EntD.cells] at e0 e1) | (go_at_call 78; refine (isSpare_any _ _ (by omega)).mono ?_; rintro e w2 ⟨rfl, rfl⟩))
      go_ret
      exact ⟨by rw [HV.out]; rfl, s1.bel⟩
    · go_enter Tryz.func52, Tryz.ntmps52
      go_wp2_with (first | (go_at_call 70; refine (HN.out _).mono ?_; rintro e w1 ⟨rfl, hb1⟩; have s1 := ST.out.below hb1; have e0 := s1.cell 0; have e1 := s1.cell 1; simp [EntD.cells] at e0 e1))
      go_ret
      exact ⟨by rw [HV.out]; rfl, s1.bel⟩
  · go_enter Tryz.func52, Tryz.ntmps52
    go_wp2_with (first | (go_at_call 70; refine (HN.out _).mono ?_; rintro e w1 ⟨rfl, hb1⟩; have s1 := ST.out.below hb1))
    go_ret
    exact ⟨by rw [HV.out]; rfl, s1.bel⟩

/-- Where something else is there: by places. -/
theorem ren_find {fold : Bool} {L : List EntD} (K : VolOk fold L) (t : BL) (i : Nat) (hi : i < L.length) :
    (L.any fun x => sameB fold x.pl t && !(x.pl == L[i].pl)) = (decide (atI fold L t < L.length) && decide (atI fold L t ≠ i)) := by
  by_cases hj : atI fold L t < L.length
  · have hs : sameB fold L[atI fold L t].pl t = true := by
      have := List.findIdx_getElem (p := isAt fold t) (w := hj)
      exact this
    by_cases he : atI fold L t = i
    · have : (L.any fun x => sameB fold x.pl t && !(x.pl == L[i].pl)) = false := by
        rw [List.any_eq_false]
        intro x hx h
        simp only [Bool.and_eq_true, Bool.not_eq_true', beq_eq_false_iff_ne] at h
        have h1 := K.one x hx _ (List.getElem_mem hj) (sameB_trans h.1 (sameB_symm hs))
        apply h.2
        rw [h1]
        congr 1
        simp [he]
      rw [this]; simp [he]
    · have : (L.any fun x => sameB fold x.pl t && !(x.pl == L[i].pl)) = true := by
        rw [List.any_eq_true]
        refine ⟨_, List.getElem_mem hj, ?_⟩
        simp only [hs, Bool.true_and, Bool.not_eq_true', beq_eq_false_iff_ne]
        intro e
        exact he (K.srt.inj _ _ hj hi e)
      rw [this]; simp [he, hj]
  · have : (L.any fun x => sameB fold x.pl t && !(x.pl == L[i].pl)) = false := by
      rw [List.any_eq_false]
      intro x hx h
      simp only [Bool.and_eq_true] at h
      apply hj
      rw [atI, List.findIdx_lt_length]
      exact ⟨x, hx, h.1⟩
    rw [this]; simp [hj]
theorem fstI_atI (fold : Bool) (L : List EntD) (p : BL) : fstI (isAt fold p) L = if atI fold L p < L.length then (atI fold L p : Int) else -1 := by
  rcases fstI_at fold L p with ⟨h1, h2⟩ | ⟨h0, h1, h2⟩
  · rw [h1, if_neg (by simpa using h2)]
  · rw [h1, if_pos h0]

/-- What rename tells ahead of the moving: the error, or the path as it stands here. -/
def preL (fold : Bool) (L : List EntD) (e : EntD) (t : BL) : Except Int BL :=
  if belowL fold t e.pl = true then .error 12
  else if (L.any fun x => sameB fold x.pl t && !(x.pl == e.pl)) = true then .error 8
  else match placeL fold L t with
    | none => .error 2
    | some p => .ok p
theorem renL_pre (fold : Bool) (L : List EntD) (e : EntD) (t : BL) : renL fold L e t = match preL fold L e t with | .error n => .error n | .ok p => if L.any (badX e p) = true then .error 1 else .ok (resR L e.pl p) := by
  unfold renL preL
  split
  · rfl
  · split
    · rfl
    · cases placeL fold L t <;> rfl
theorem mov_small {L : List EntD} {a t : BL} (hs : ∀ o ∈ L, o.pl.length ≤ 60) (ht : t.length ≤ 60) : ∀ o ∈ L.map (movP a t), o.small := by
  intro o ho
  obtain ⟨x, hx, rfl⟩ := List.mem_map.1 ho
  have := hs x hx
  show (movP a t x).path.size ≤ 1500000
  have e : (movP a t x).path.size = (movP a t x).pl.length := by simp [EntD.pl]
  rw [e]
  unfold movP
  split
  · rw [pl_withP]; simp; omega
  · omega

theorem pre_ren {fold : Bool} {L : List EntD} {e : EntD} {t p : BL} (he : e ∈ L) (hg : goodP t) (h : preL fold L e t = .ok p) : RenOk fold L e t p := by
  unfold preL at h
  split at h
  · cases h
  · next h1 =>
    split at h
    · cases h
    · next h2 =>
      cases hp : placeL fold L t with
      | none => rw [hp] at h; cases h
      | some q =>
        rw [hp] at h
        cases h
        exact ren_pre he h1 h2 hp hg
theorem pre_len {fold : Bool} {L : List EntD} {e : EntD} {t p : BL} (K : VolOk fold L) (R : RenOk fold L e t p) : p.length ≤ 60 := by
  obtain ⟨h1, h2⟩ := place_good K R.place R.good
  rcases R.good with h | h
  · exact path_len (h1 h)
  · rw [h2 h]; exact good_len (.inr h)

/-- moved, as rename calls it. -/
theorem vmovedR {w : World} {vb : Nat} {v : Value} {L : List EntD} {fold : Bool} {space : Int} (V : Vm w vb v L fold space) (K : VolOk fold L) (i : Nat) (hi : i < L.length) {t p : BL} (R : RenOk fold L L[i] t p) :
    Calls Tryz.prog 133 #[.pointer (some ⟨vb, 0, none⟩), .string L[i].path, .string (ofL p)] w fun r w' => ∃ v', r = .returned v' ∧ w'.ownsRow w.heap.size 54 5 v' (resR L L[i].pl p).length (flatE (resR L L[i].pl p)) ∧ Below w.heap.size w w' := by
  have hpl := pre_len K R
  have hlen : ∀ o ∈ L, o.pl.length ≤ 60 := fun o ho => good_len ((K.names o ho).imp id fun h => h.2)
  have hrow := V.row
  have ee : L[i].path.data.toList = L[i].pl := rfl
  have ep : (ofL p).data.toList = p := by simp [ofL]
  have es : (ofL p).size = p.length := by simp [ofL, ByteArray.size]
  cases hrow with
  | nil => simp at hi
  | row b off cap l hlb hc hm h =>
    have hmv := vmoved V.vol hlb h V.len (by omega) V.small L[i].path (ofL p) (V.small _ (List.getElem_mem hi)) (by omega) (by rw [ee, ep]; exact mov_small hlen hpl)
    rw [ee, ep] at hmv
    refine hmv.mono ?_
    rintro r w' ⟨v', M, rfl, hp, hso, hown, hb⟩
    have hM := res_sorted K R M hp hso
    subst hM
    exact ⟨v', rfl, hown, hb⟩
end Go.Proofs.YtemkpollilhmjaaGreatDoor

/- A volume in memory: rename. -/
namespace Go.Proofs.YtemkpollilhmjaaGreatDoor
open Go.RowKit
set_option linter.unusedVariables false
set_option linter.unusedSimpArgs false

set_option maxHeartbeats 4000000 in
set_option maxRecDepth 100000 in
theorem vrename {w : World} {vb : Nat} {v : Value} {L : List EntD} {fold : Bool} {space : Int} (V : Vm w vb v L fold space) (K : VolOk fold L) (o : OpD) (ho : o.small) (hg : goodP o.tl) :
    Calls Tryz.prog 107 #[.pointer (some ⟨vb, 0, none⟩), o.val] w fun r w' => Ans w.heap.size (match L[atI fold L o.pl]? with | none => .error 9 | some e => renL fold L e o.tl) r w' ∧ Below w.heap.size w w' := by
  have ST := hidD (Ob.start w o)
  have HF := hidD (fun (u : World) (hu : Below w.heap.size w u) => vfind (V.below hu).vol (V.below hu).row V.smallL o.path ho.1)
  have k1 := ST.out.cell 1
  simp [OpD.cells] at k1
  rw [show o.path.data.toList = o.pl from rfl] at HF
  rcases fstI_at fold L o.pl with ⟨hi, hf⟩ | ⟨hlt, hi, hf⟩
  · rw [hi] at HF
    rw [hf]
    unfold OpD.val Ans
    go_enter Tryz.func107, Tryz.ntmps107
    go_wp2_with (go_at_call 127; refine (HF.out _ ST.out.bel).mono ?_; rintro r w1 ⟨rfl, hb1⟩)
    go_ret2
    exact ⟨rfl, (ST.out.below hb1).bel⟩
  · have hsm : sameB fold L[atI fold L o.pl].pl o.pl = true := (atI_some hf).2.2
    rw [hi] at HF
    rw [hf]
    simp only
    have HV := hidD V.vol
    have hvlt := V.vol.lt
    have hll := V.len
    have ho1 : o.path.size ≤ 1500000 := ho.1
    have ho2 : o.dest.size ≤ 1500000 := ho.2
    have HBL : Hid (belowL fold o.dest.data.toList o.path.data.toList = belowL fold o.tl L[atI fold L o.pl].pl) := (belowL_same hsm).symm
    have HF2 := hidD (fun (u : World) (hu : Below w.heap.size w u) => vfind (V.below hu).vol (V.below hu).row V.smallL o.dest ho.2)
    have HP := hidD (fun (u : World) (hu : Below w.heap.size w u) => vplace (V.below hu).vol (V.below hu).row V.smallL o.dest ho.2)
    rw [show o.dest.data.toList = o.tl from rfl, fstI_atI] at HF2
    have hrf := ren_find K o.tl (atI fold L o.pl) hlt
    have HM := hidD (fun (p : BL) (h : preL fold L L[atI fold L o.pl] o.tl = .ok p) (u : World) (hu : Below w.heap.size w u) => vmovedR (V.below hu) K (atI fold L o.pl) hlt (pre_ren (List.getElem_mem hlt) hg h))
    have HH := hidD (fun (p : BL) (h : preL fold L L[atI fold L o.pl] o.tl = .ok p) => show (resR L L[atI fold L o.pl].pl p).all holdB = !(L.any (badX L[atI fold L o.pl] p)) by
      have R := pre_ren (List.getElem_mem hlt) hg h
      rw [← hold_bad K R]
      exact (res_perm L _ p).all_eq)
    have HSm := hidD (fun (p : BL) (h : preL fold L L[atI fold L o.pl] o.tl = .ok p) => show ∀ x ∈ resR L L[atI fold L o.pl].pl p, x.small by
      have R := pre_ren (List.getElem_mem hlt) hg h
      intro x hx
      exact mov_small (fun o ho => good_len ((K.names o ho).imp id fun h => h.2)) (pre_len K R) x ((res_perm L _ p).mem_iff.1 hx))
    have HLn := hidD (fun (p : BL) => show (resR L L[atI fold L o.pl].pl p).length = L.length by rw [(res_perm L _ p).length_eq]; simp)
    have hrow := V.row
    rw [renL_pre]
    clear V K
    generalize atI fold L o.pl = i at *
    generalize atI fold L o.tl = j at *
    unfold preL at *
    cases hb : belowL fold o.tl L[i].pl
    · rw [hb] at HBL
      rw [hrf] at HM HH HSm ⊢
      simp only [Bool.false_eq_true, if_false] at HM HH HSm ⊢
      clear hrf
      by_cases hj : j < L.length ∧ j ≠ i
      · rw [if_pos hj.1] at HF2
        have hji : ((j : Int) != (i : Int)) = true := by simp; omega
        simp only [hj.1, hj.2, ne_eq, not_false_eq_true, decide_true, Bool.and_self, if_true]
        clear HM HH HSm HP
        unfold OpD.val Ans
        go_enter Tryz.func107, Tryz.ntmps107
        go_wp2_with (go_at_call 127; refine (HF.out _ ST.out.bel).mono ?_; rintro r w1 ⟨rfl, hb1⟩; have s1 := ST.out.below hb1; have d1 := s1.cell 1; have d2 := s1.cell 2; simp [OpD.cells] at d1 d2; have c1 := (HV.out.below s1.bel hvlt).c1)
        go_region_held (fun u => u.cell? ⟨w.heap.size, 1, none⟩ = some (.string o.path) ∧ u.cell? ⟨w.heap.size, 2, none⟩ = some (.string o.dest) ∧ u.cell? ⟨vb, 1, none⟩ = some (.bool fold)) (go_keep) (first | (go_at_call 128; refine (isBelow_bel o.dest o.path fold _ ho2 ho1).mono ?_; rintro r w2 ⟨rfl, hb2⟩; rw [HBL.out]; have s2 := (s1.drewN 1).below hb2; have g1 := s2.cell 1; have g2 := s2.cell 2; simp [OpD.cells] at g1 g2; have f1 := (HV.out.below s2.bel hvlt).c1))
        all_goals go_wp2_with (go_at_call 127; refine (HF2.out _ s2.bel).mono ?_; rintro r w3 ⟨rfl, hb3⟩; have s3 := s2.below hb3; have e2 := s3.cell 2; simp [OpD.cells] at e2)
        all_goals go_ret2
        all_goals exact ⟨rfl, s3.bel⟩
      · have hjn : (decide (j < L.length) && decide (j ≠ i)) = false := by
          by_cases h1 : j < L.length
          · have h2 : j = i := by
              by_cases h3 : j = i
              · exact h3
              · exact absurd ⟨h1, h3⟩ hj
            simp [h2]
          · simp [h1]
        rw [hjn] at HM HH HSm ⊢
        simp only [Bool.false_eq_true, if_false] at HM HH HSm ⊢
        have hJ : (if j < L.length then (j : Int) else -1) = -1 ∨ ((if j < L.length then (j : Int) else -1) = i ∧ ((i : Int) != (i : Int)) = false) := by
          by_cases h1 : j < L.length
          · right
            rw [if_pos h1]
            refine ⟨?_, by simp⟩
            by_cases h3 : j = i
            · rw [h3]
            · exact absurd ⟨h1, h3⟩ hj
          · left; rw [if_neg h1]
        cases hpl : placeL fold L o.tl with
        | none =>
          have hA : plAns fold L o.dest = (⟨#[]⟩, 2) := by simp only [plAns, show o.dest.data.toList = o.tl from rfl, hpl]
          rw [hA] at HP
          clear HM HH HSm hpl
          simp only
          rcases hJ with hJ | ⟨hJ, hii⟩
          all_goals rw [hJ] at HF2
          all_goals unfold OpD.val Ans
          all_goals go_enter Tryz.func107, Tryz.ntmps107
          all_goals go_wp2_with (go_at_call 127; refine (HF.out _ ST.out.bel).mono ?_; rintro r w1 ⟨rfl, hb1⟩; have s1 := ST.out.below hb1; have d1 := s1.cell 1; have d2 := s1.cell 2; simp [OpD.cells] at d1 d2; have c1 := (HV.out.below s1.bel hvlt).c1)
          all_goals go_region_held (fun u => u.cell? ⟨w.heap.size, 1, none⟩ = some (.string o.path) ∧ u.cell? ⟨w.heap.size, 2, none⟩ = some (.string o.dest) ∧ u.cell? ⟨vb, 1, none⟩ = some (.bool fold)) (go_keep) (first | (go_at_call 128; refine (isBelow_bel o.dest o.path fold _ ho2 ho1).mono ?_; rintro r w2 ⟨rfl, hb2⟩; rw [HBL.out]; have s2 := (s1.drewN 1).below hb2; have g1 := s2.cell 1; have g2 := s2.cell 2; simp [OpD.cells] at g1 g2; have f1 := (HV.out.below s2.bel hvlt).c1))
          all_goals go_wp2_with (first | (go_at_call 127; refine (HF2.out _ s2.bel).mono ?_; rintro r w3 ⟨rfl, hb3⟩; have s3 := s2.below hb3; have e2 := s3.cell 2; simp [OpD.cells] at e2) | (go_at_call 132; refine (HP.out _ s3.bel).mono ?_; rintro r w4 ⟨rfl, hb4⟩; have s4 := s3.below hb4))
          all_goals go_ret2
          all_goals exact ⟨rfl, s4.bel⟩
        | some p =>
          have hA : plAns fold L o.dest = (ofL p, 0) := by simp only [plAns, show o.dest.data.toList = o.tl from rfl, hpl]
          rw [hA] at HP
          rw [hpl] at HM HH HSm
          have HM2 := hidD (HM.out p (by first | rfl | (rw [hb]; rfl)))
          have HH2 := hidD (HH.out p (by first | rfl | (rw [hb]; rfl)))
          have HS2 := hidD (HSm.out p (by first | rfl | (rw [hb]; rfl)))
          have hln := HLn.out p
          clear HM HH HSm hpl HLn
          simp only
          generalize resR L L[i].pl p = M at *
          generalize L.any (badX L[i] p) = B at *
          cases hrow with
          | nil => simp at hlt
          | row b off cap l hlb hc hm h =>
            have HC : Hid (∀ u : World, Below w.heap.size w u → u.cell? ⟨b, off + i * 5, none⟩ = some (.string L[i].path)) := fun u hu => (h.below hu hlb) i hlt 0 _ rfl
            clear h hsm hf hi hb
            generalize L[i].path = q at *
            generalize ofL p = pt at *
            unfold OpD.val
            generalize hX : (if B = true then (Except.error 1 : Except Int (List EntD)) else Except.ok M) = X
            have HX := hidD hX
            clear hX
            rcases hJ with hJ | ⟨hJ, hii⟩
            all_goals rw [hJ] at HF2
            all_goals clear hJ
            all_goals go_enter Tryz.func107, Tryz.ntmps107
            all_goals go_wp2_with (go_at_call 127; refine (HF.out _ ST.out.bel).mono ?_; rintro r w1 ⟨rfl, hb1⟩; have s1 := ST.out.below hb1; have d1 := s1.cell 1; have d2 := s1.cell 2; simp [OpD.cells] at d1 d2; have c1 := (HV.out.below s1.bel hvlt).c1)
            all_goals go_region_held (fun u => u.cell? ⟨w.heap.size, 1, none⟩ = some (.string o.path) ∧ u.cell? ⟨w.heap.size, 2, none⟩ = some (.string o.dest) ∧ u.cell? ⟨vb, 1, none⟩ = some (.bool fold)) (go_keep) (first | (go_at_call 128; refine (isBelow_bel o.dest o.path fold _ ho2 ho1).mono ?_; rintro r w2 ⟨rfl, hb2⟩; rw [HBL.out]; have s2 := (s1.drewN 1).below hb2; have g1 := s2.cell 1; have g2 := s2.cell 2; simp [OpD.cells] at g1 g2; have f1 := (HV.out.below s2.bel hvlt).c1))
            all_goals go_wp2_with (first | (go_at_call 127; refine (HF2.out _ s2.bel).mono ?_; rintro r w3 ⟨rfl, hb3⟩; have s3 := s2.below hb3; have e2 := s3.cell 2; simp [OpD.cells] at e2) | (go_at_call 132; refine (HP.out _ s3.bel).mono ?_; rintro r w4 ⟨rfl, hb4⟩; have s4 := s3.below hb4; have c0 := (HV.out.below s4.bel hvlt).c0; have cq := HC.out _ s4.bel) | (go_at_call 133; refine (HM2.out _ s4.bel).mono ?_; rintro r w5 ⟨v5, rfl, hown5, hb5⟩; have s5 := s4.below hb5; obtain ⟨g, c5, hv5⟩ := own_some hown5 (by omega); subst hv5))
            all_goals clear ST HF HF2 HP HM2 HC HV
            all_goals have S5 := hidD s5
            all_goals have O5 := hidD hown5
            all_goals have hs4 := s4.bel.size
            all_goals clear s1 s2 s3 s4 s5 hb1 hb2 hb3 hb4 hb5 hown5
            all_goals go_loopw [62] (fun kv wr => ∃ k : Nat, k ≤ M.length ∧ kv = .int .i64 k ∧ Hid ((M.take k).all holdB = true) ∧ Hid (Below w5.heap.size w5 wr)) (fun kv _ => M.length - (intOf kv).toNat)
            case atStart => exact ⟨0, Nat.zero_le _, rfl, hidD rfl, hidD (Below.refl _ _)⟩
            case atStart => exact ⟨0, Nat.zero_le _, rfl, hidD rfl, hidD (Below.refl _ _)⟩
            all_goals
              obtain ⟨k, hk, rfl, HD, HB⟩ := hrel
              by_cases hlk : k < M.length
              · have o6 := own_below HB.out O5.out
                have hcell : ∀ jj, jj < 5 → wr.cell? ⟨g, k * 5 + jj, none⟩ = M[k].cells[jj]? := fun jj hjj => by
                  rw [o6.cellAt (k * 5 + jj) (by omega), flatE_get _ k hlk jj hjj]
                have x0 : wr.cell? ⟨g, k * 5, none⟩ = some (.string M[k].path) := hcell 0 (by omega)
                have x1 : wr.cell? ⟨g, k * 5 + 1, none⟩ = some (.bool M[k].dir) := hcell 1 (by omega)
                have x2 : wr.cell? ⟨g, k * 5 + 2, none⟩ = some (.int .i64 M[k].id) := hcell 2 (by omega)
                have x3 : wr.cell? ⟨g, k * 5 + 3, none⟩ = some (.int .i64 M[k].size) := hcell 3 (by omega)
                have x4 : wr.cell? ⟨g, k * 5 + 4, none⟩ = some (.int .i64 M[k].mode) := hcell 4 (by omega)
                have HT : Hid ((M.take (k + 1)).all holdB = holdB M[k]) := by
                  show (M.take (k + 1)).all holdB = holdB M[k]
                  rw [List.take_succ_eq_append_getElem hlk, List.all_append, HD.out]; simp
                have HNO : Hid (holdB M[k] = false → B = true) := fun hf => by
                  have h1 : M.all holdB = false := by
                    cases hc : M.all holdB
                    · rfl
                    · rw [List.all_eq_true] at hc
                      have := hc _ (List.getElem_mem hlk)
                      rw [hf] at this; cases this
                  have h2 := HH2.out
                  rw [h1] at h2
                  cases B
                  · cases h2
                  · rfl
                have hsk := HS2.out _ (List.getElem_mem hlk)
                have HMH := hidD (fun u => mayHold_any M[k] u hsk)
                clear hcell o6
                generalize M[k] = x at *
                have SX := hidD (Eb.start wr x)
                cases hh : holdB x
                all_goals rw [hh] at HMH
                · go_wp2_with (go_at_call 52; refine (HMH.out _).mono ?_; rintro r w7 ⟨rfl, hb7⟩)
                  go_ret2
                  refine ⟨?_, (S5.out.below (HB.out.trans ((SX.out.below hb7).bel.mono HB.out.size))).bel⟩
                  have hBT := HNO.out (by first | exact hh | trivial)
                  have hX := HX.out
                  rw [hBT, if_pos rfl] at hX
                  rw [← hX]
                  rfl
                · go_wp2_with (go_at_call 52; refine (HMH.out _).mono ?_; rintro r w7 ⟨rfl, hb7⟩)
                  exact ⟨⟨k + 1, by omega, by go_num, hidD (by rw [HT.out]; exact hh), hidD (HB.out.trans ((SX.out.below hb7).bel.mono HB.out.size))⟩, by simp [intOf]; omega⟩
              · have HBF : Hid (B = false) := by
                  show B = false
                  have h1 := HD.out
                  rw [List.take_of_length_le (by omega), HH2.out] at h1
                  cases B
                  · rfl
                  · cases h1
                go_wp2
                go_ret2
                refine ⟨?_, (S5.out.below HB.out).bel⟩
                have hX := HX.out
                rw [HBF.out, if_neg (by decide)] at hX
                rw [← hX]
                have h9 := own_mono (own_below HB.out O5.out) hs4
                rw [hln] at h9
                refine ⟨_, rfl, ?_⟩
                rw [hln]
                exact h9
    · rw [hb] at HBL
      simp only [if_true]
      clear HM HH HSm HP HF2
      unfold OpD.val Ans
      go_enter Tryz.func107, Tryz.ntmps107
      go_wp2_with (go_at_call 127; refine (HF.out _ ST.out.bel).mono ?_; rintro r w1 ⟨rfl, hb1⟩; have s1 := ST.out.below hb1; have d1 := s1.cell 1; have d2 := s1.cell 2; simp [OpD.cells] at d1 d2; have c1 := (HV.out.below s1.bel hvlt).c1)
      go_region_held (fun u => u.cell? ⟨w.heap.size, 1, none⟩ = some (.string o.path) ∧ u.cell? ⟨w.heap.size, 2, none⟩ = some (.string o.dest) ∧ u.cell? ⟨vb, 1, none⟩ = some (.bool fold)) (go_keep) (first | (go_at_call 128; refine (isBelow_bel o.dest o.path fold _ ho2 ho1).mono ?_; rintro r w2 ⟨rfl, hb2⟩; rw [HBL.out]; have s2 := (s1.drewN 1).below hb2; have g1 := s2.cell 1; have g2 := s2.cell 2; simp [OpD.cells] at g1 g2; have f1 := (HV.out.below s2.bel hvlt).c1))
      all_goals go_wp2
      all_goals go_ret2
      all_goals exact ⟨rfl, s2.bel⟩
end Go.Proofs.YtemkpollilhmjaaGreatDoor

/- A volume in memory: an operation done. -/
namespace Go.Proofs.YtemkpollilhmjaaGreatDoor
open Go.RowKit
set_option linter.unusedVariables false
set_option linter.unusedSimpArgs false

/-- A volume's own block, whole: its entries, whether it folds, its space, and the rest. -/
def Vk (T : TypeId) (w : World) (vb : Nat) (v : Value) (fold : Bool) (space : Int) (rest : List Value) : Prop :=
  w.heap[vb]? = some (.cells (v :: .bool fold :: .int .i64 space :: rest).toArray T (0, 0))
theorem Vk.lt {T : TypeId} {w : World} {vb : Nat} {v : Value} {fold : Bool} {space : Int} {rest : List Value} (h : Vk T w vb v fold space rest) : vb < w.heap.size := (Array.getElem?_eq_some_iff.1 h).1
theorem Vk.vol {T : TypeId} {w : World} {vb : Nat} {v : Value} {fold : Bool} {space : Int} {rest : List Value} (h : Vk T w vb v fold space rest) : VolAt w vb v fold space where
  c0 := by rw [Lib.cell_of_heap h]; rfl
  c1 := by rw [Lib.cell_of_heap h]; rfl
  c2 := by rw [Lib.cell_of_heap h]; rfl
  lt := h.lt
theorem Vk.frozen {T : TypeId} {w : World} {vb : Nat} {v : Value} {fold : Bool} {space : Int} {rest : List Value} (h : Vk T w vb v fold space rest) (j : Nat) : w.frozen? ⟨vb, j, none⟩ = false := frozen_of_row w vb j _ T h
theorem Vk.below {T : TypeId} {w w' : World} {vb : Nat} {v : Value} {fold : Bool} {space : Int} {rest : List Value} (h : Vk T w vb v fold space rest) {B : Nat} (hb : Below B w w') (hB : vb < B) : Vk T w' vb v fold space rest := (hb.block vb hB).trans h
theorem Vk.set {T : TypeId} {w : World} {vb : Nat} {v : Value} {fold : Bool} {space : Int} {rest : List Value} (h : Vk T w vb v fold space rest) (v' : Value) : Vk T (w.setCell ⟨vb, 0, none⟩ v') vb v' fold space rest ∧ w.grownBy (w.setCell ⟨vb, 0, none⟩ v') (some vb) := by
  constructor
  · have := heap_setCell_same w vb 0 _ T v' h
    rw [Vk, this]; simp
  · exact ⟨rfl, rfl, rfl, by simp, fun k _ hk => heap_setCell_other w ⟨vb, 0, none⟩ k v' (fun e => hk (by simp [e]))⟩

/-- What Do answers: an error, and all is as it was; or nothing, and the volume has these entries. -/
def DoA (T : TypeId) (w : World) (vb : Nat) (fold : Bool) (space : Int) (rest : List Value) (x : Except Int (List EntD)) (r : Ending) (w' : World) : Prop :=
  match x with
  | .error n => r = .returned (.int .i64 n) ∧ Below w.heap.size w w'
  | .ok M => r = .returned (.int .i64 0) ∧ ∃ v', Vk T w' vb v' fold space rest ∧ w'.ownsRow w.heap.size 54 5 v' M.length (flatE M) ∧ w.grownBy w' (some vb)

theorem grown_of {w u u' : World} {vb : Nat} (hb : Below w.heap.size w u) (hg : u.grownBy u' (some vb)) : w.grownBy u' (some vb) :=
  ⟨hg.os.trans hb.os, hg.tape.trans hb.tape, hg.output.trans hb.output, Nat.le_trans hb.size hg.size, fun k hk hne => (hg.block k (Nat.lt_of_lt_of_le hk hb.size) hne).trans (hb.block k hk)⟩

/-- Every operation's own function, against doL. -/
theorem vops {w : World} {vb : Nat} {v : Value} {L : List EntD} {fold : Bool} {space : Int} (V : Vm w vb v L fold space) (K : VolOk fold L) (o : OpD) (ho : o.small) (hg : OpGood o) :
    Calls Tryz.prog (fnOf o.kind) #[.pointer (some ⟨vb, 0, none⟩), o.val] w fun r w' => Ans w.heap.size (doL fold space L o) r w' ∧ Below w.heap.size w w' := by
  have hk := hg.kinds
  by_cases h6 : o.kind = 6
  · have e1 : fnOf o.kind = 107 := by rw [h6]; rfl
    have e2 : doL fold space L o = match L[atI fold L o.pl]? with | none => .error 9 | some e => renL fold L e o.tl := by
      unfold doL
      rw [if_neg (by omega), if_neg (by omega)]
      cases L[atI fold L o.pl]? with
      | none => rfl
      | some e => simp only; rw [if_neg (by omega), if_pos h6]
    rw [e1, e2]
    exact vrename V K o ho (hg.dest (.inr h6))
  · refine vop V K o ho hg _ ?_
    have hK : o.kind = 1 ∨ o.kind = 2 ∨ o.kind = 3 ∨ o.kind = 4 ∨ o.kind = 5 ∨ o.kind = 7 := by omega
    rcases hK with h | h | h | h | h | h <;> rw [h] <;> simp [fnOf]

set_option maxHeartbeats 4000000 in
set_option maxRecDepth 100000 in
theorem vDo_of {w : World} {vb : Nat} {v : Value} {fold : Bool} {space : Int} {rest : List Value} (hv : Vk 60 w vb v fold space rest) (kind : Int) (path dest : ByteArray) (id size mode : Int) (x : Except Int (List EntD))
    (H1 : ∀ u : World, Below w.heap.size w u → Calls Tryz.prog 71 #[.agg #[.int .i64 kind, .string path, .string dest, .int .i64 id, .int .i64 size, .int .i64 mode]] u fun e w' => e = .returned (.bool true) ∧ Below u.heap.size u w')
    (H2 : ∀ u : World, Below w.heap.size w u → Calls Tryz.prog 72 #[.pointer (some ⟨vb, 0, none⟩), .agg #[.int .i64 kind, .string path, .string dest, .int .i64 id, .int .i64 size, .int .i64 mode]] u fun r w' => Ans u.heap.size x r w' ∧ Below u.heap.size u w')
    (hx : ∀ n, x = .error n → n ≠ 0) :
    Calls Tryz.prog 48 #[.pointer (some ⟨vb, 0, none⟩), .agg #[.int .i64 kind, .string path, .string dest, .int .i64 id, .int .i64 size, .int .i64 mode]] w fun r w' => DoA 60 w vb fold space rest x r w' := by
  have ST := hidD (Ob.start w ⟨kind, path, dest, id, size, mode⟩)
  have HA := hidD H1
  have HB := hidD H2
  have HV := hidD hv
  have hvlt := hv.lt
  clear H1 H2 hv
  cases x with
  | error n =>
    have hn : (n == 0) = false := by simpa using hx n rfl
    clear hx
    unfold Ans at HB
    unfold DoA
    go_enter Tryz.func48, Tryz.ntmps48
    go_wp2_with (first | (go_at_call 71; refine (HA.out _ ST.out.bel).mono ?_; rintro r w1 ⟨rfl, hb1⟩; have s1 := ST.out.below hb1; have d0 := s1.cell 0; have d1 := s1.cell 1; have d2 := s1.cell 2; have d3 := s1.cell 3; have d4 := s1.cell 4; have d5 := s1.cell 5; simp [OpD.cells] at d0 d1 d2 d3 d4 d5) | (go_at_call 72; refine (HB.out _ s1.bel).mono ?_; rintro r w2 ⟨rfl, hb2⟩; have s2 := s1.below hb2))
    go_ret
    exact ⟨rfl, s2.bel⟩
  | ok M =>
    clear hx
    unfold Ans at HB
    unfold DoA
    go_enter Tryz.func48, Tryz.ntmps48
    go_wp2_with (first | (go_at_call 71; refine (HA.out _ ST.out.bel).mono ?_; rintro r w1 ⟨rfl, hb1⟩; have s1 := ST.out.below hb1; have d0 := s1.cell 0; have d1 := s1.cell 1; have d2 := s1.cell 2; have d3 := s1.cell 3; have d4 := s1.cell 4; have d5 := s1.cell 5; simp [OpD.cells] at d0 d1 d2 d3 d4 d5) | (go_at_call 72; refine (HB.out _ s1.bel).mono ?_; rintro r w2 ⟨⟨v2, rfl, hown2⟩, hb2⟩; have s2 := s1.below hb2; obtain ⟨a2, m2, c2, hv2⟩ := own_shape hown2; subst hv2; have k2 := HV.out.below s2.bel hvlt; have f2 := k2.frozen 0; have e2 := k2.vol.c0))
    go_ret
    obtain ⟨q1, q2⟩ := k2.set (.slice a2 m2 c2)
    refine ⟨rfl, _, q1, ?_, grown_of s2.bel q2⟩
    have h3 := own_mono hown2 s1.bel.size
    refine h3.kept q2 ?_
    cases hb : (Value.slice a2 m2 c2).ownBlock with
    | none => exact .inl rfl
    | some g => exact .inr (fun e => by have := (h3.lt g hb).1; cases e; omega)
end Go.Proofs.YtemkpollilhmjaaGreatDoor

/- A script's course: the trees that come of its first operations. What lies in memory meanwhile. -/
namespace Go.Proofs.YtemkpollilhmjaaGreatDoor
open Go.RowKit
set_option linter.unusedVariables false
set_option linter.unusedSimpArgs false

inductive OpRow (w : World) : Value → List OpD → Prop
  | nil : OpRow w (.slice none 0 0) []
  | row (b off cap : Nat) (l : List OpD) (hb : b < w.heap.size) (h : OpsAt w b off l) : OpRow w (.slice (some ⟨b, off, none⟩) l.length cap) l
theorem OpRow.below {w w' : World} {v : Value} {l : List OpD} (h : OpRow w v l) {B : Nat} (hb : Below B w w') (hB : w.heap.size ≤ B) : OpRow w' v l := by
  cases h with
  | nil => exact .nil
  | row b off cap l hlt h => exact .row b off cap l (by have := hb.size; omega) (h.below hb (by omega))
theorem OpRow.val {w : World} {v : Value} {l : List OpD} (h : OpRow w v l) : ∃ a c, v = .slice a l.length c := by
  cases h with
  | nil => exact ⟨_, _, rfl⟩
  | row b off cap l hlt h => exact ⟨_, _, rfl⟩
theorem op_parts {w : World} {a : Option Addr} {n c : Nat} {l : List OpD} (h : OpRow w (.slice a n c) l) {k : Nat} (hk : k < l.length) : ∃ b off, a = some ⟨b, off, none⟩ ∧ n = l.length ∧ b < w.heap.size ∧ OpsAt w b off l := by
  generalize hv : Value.slice a n c = v at h
  cases h with
  | nil => simp at hk
  | row b off cap l hlb h =>
    simp only [Value.slice.injEq] at hv
    exact ⟨b, off, hv.1, hv.2.1, hlb, h⟩

theorem treesCheckF {w : World} {v : Value} {L : List EntD} (fold : Bool) (hr : RowAt w v L) (hs : SmallL L) :
    Calls Tryz.prog 46 #[v, .bool fold] w fun e w' => ∃ c k : Int, e = .returned (.tuple #[.int .i64 c, .int .i64 k]) ∧ (c == 0) = treeF fold L ∧ Below w.heap.size w w' := by
  cases hr with
  | nil =>
    cases fold
    · exact (treesCheck_nil w).mono (by rintro e w' ⟨rfl, rfl⟩; exact ⟨_, _, rfl, rfl, Below.refl _ _⟩)
    · exact (treesCheckT_nil w).mono (by rintro e w' ⟨rfl, rfl⟩; exact ⟨_, _, rfl, rfl, Below.refl _ _⟩)
  | row b off cap l hlb hc hm h =>
    cases fold
    · exact (treesCheck_any b off cap L w hs.1 hc hs.2 hlb h).mono (by rintro e w' ⟨rfl, hb⟩; exact ⟨_, _, rfl, rfl, hb⟩)
    · exact (treesCheckT_any b off cap L w hs.1 hc hs.2 hlb h).mono (by rintro e w' ⟨rfl, hb⟩; exact ⟨_, _, rfl, rfl, hb⟩)
theorem firstWrongF {w : World} {v : Value} {l : List OpD} (hg : Gd w) (hr : OpRow w v l) (hl : l.length ≤ 2000000) (hs : ∀ o ∈ l, o.small) :
    Calls Tryz.prog 47 #[v] w fun e w' => e = .returned (.tuple #[.int .i64 (fwrong l 0).1, .bool (fwrong l 0).2]) ∧ Below w.heap.size w w' := by
  cases hr with
  | nil => exact (firstWrong_nil w).mono (by rintro e w' ⟨rfl, rfl⟩; exact ⟨rfl, Below.refl _ _⟩)
  | row b off cap l hlb h => exact firstWrong_any b off cap l w hg hl hs hlb h

theorem own_block {u : World} {B T s n : Nat} {v : Value} {xs : List Value} (h : u.ownsRow B T s v n xs) {g : Nat} (hg : v.ownBlock = some g) : ∃ cs, u.heap[g]? = some (.cells cs T (0, 0)) := by
  rcases h.2 with ⟨rfl, _⟩ | ⟨g', cap, cur, rfl, _, hgg, _⟩
  · simp [Value.ownBlock] at hg
  · simp [Value.ownBlock] at hg
    subst hg
    exact ⟨cur, hgg⟩
theorem own_keep2 {u u' : World} {B1 T1 s1 n1 B2 T2 s2 n2 : Nat} {v1 v2 : Value} {x1 x2 : List Value} (h : u.ownsRow B1 T1 s1 v1 n1 x1) (k : u.ownsRow B2 T2 s2 v2 n2 x2) (hne : T1 ≠ T2) (hg : u.grownBy u' v2.ownBlock) : u'.ownsRow B1 T1 s1 v1 n1 x1 := by
  refine h.kept hg ?_
  cases hb : v1.ownBlock with
  | none => exact .inl rfl
  | some g =>
    refine .inr (fun e => ?_)
    obtain ⟨c1, h1⟩ := own_block h hb
    obtain ⟨c2, h2⟩ := own_block k e.symm
    rw [h1] at h2
    simp only [Option.some.injEq, Obj.cells.injEq] at h2
    exact hne h2.2.1
theorem own_vk {u u' : World} {B1 T1 s1 n1 vb T : Nat} {v1 v : Value} {x1 : List Value} {fold : Bool} {space : Int} {rest : List Value} (h : u.ownsRow B1 T1 s1 v1 n1 x1) (k : Vk T u vb v fold space rest) (hne : T1 ≠ T) (hg : u.grownBy u' (some vb)) : u'.ownsRow B1 T1 s1 v1 n1 x1 := by
  refine h.kept hg ?_
  cases hb : v1.ownBlock with
  | none => exact .inl rfl
  | some g =>
    refine .inr (fun e => ?_)
    obtain ⟨c1, h1⟩ := own_block h hb
    cases e
    unfold Vk at k
    rw [h1] at k
    simp only [Option.some.injEq, Obj.cells.injEq] at k
    exact hne k.2.1
theorem vk_own {u u' : World} {B2 T2 s2 n2 vb T : Nat} {v2 v : Value} {x2 : List Value} {fold : Bool} {space : Int} {rest : List Value} (k : Vk T u vb v fold space rest) (h : u.ownsRow B2 T2 s2 v2 n2 x2) (hne : T ≠ T2) (hg : u.grownBy u' v2.ownBlock) : Vk T u' vb v fold space rest := by
  unfold Vk
  rw [hg.block vb k.lt (fun e => ?_)]
  · exact k
  · obtain ⟨c2, h2⟩ := own_block h e.symm
    unfold Vk at k
    rw [h2] at k
    simp only [Option.some.injEq, Obj.cells.injEq] at k
    exact hne k.2.1.symm

/-- The trees so far, in memory. -/
structure WaySt (w0 : World) (vb : Nat) (fold : Bool) (u : World) (wv : Value) (vs : List Value) (Ls : List (List EntD)) (v : Value) (Lk : List EntD) : Prop where
  bel : Below w0.heap.size w0 u
  vbge : w0.heap.size ≤ vb
  vol : Vk 60 u vb v fold 9223372036854775807 [.string ⟨#[]⟩]
  way : u.ownsRow w0.heap.size 22 1 wv vs.length vs
  len : vs.length = Ls.length
  rows : ∀ (j : Nat) (h : j < vs.length) (h' : j < Ls.length), RowAt w0 vs[j] Ls[j] ∨ u.ownsRow w0.heap.size 54 5 vs[j] Ls[j].length (flatE Ls[j])
  cur : RowAt w0 v Lk ∨ u.ownsRow w0.heap.size 54 5 v Lk.length (flatE Lk)
theorem row_of {w0 u : World} {v : Value} {L : List EntD} (hb : Below w0.heap.size w0 u) (h : RowAt w0 v L ∨ u.ownsRow w0.heap.size 54 5 v L.length (flatE L)) : RowAt u v L := by
  rcases h with h | h
  · exact h.below hb (Nat.le_refl _)
  · exact RowAt.ofOwn h
theorem WaySt.below {w0 : World} {vb : Nat} {fold : Bool} {u u' : World} {wv v : Value} {vs : List Value} {Ls : List (List EntD)} {Lk : List EntD} (h : WaySt w0 vb fold u wv vs Ls v Lk) (hb : Below u.heap.size u u') : WaySt w0 vb fold u' wv vs Ls v Lk :=
  ⟨h.bel.trans (hb.mono h.bel.size), h.vbge, h.vol.below hb h.vol.lt, own_below hb h.way, h.len, fun j h1 h2 => (h.rows j h1 h2).imp id (own_below hb), h.cur.imp id (own_below hb)⟩
/-- An operation is done. -/
theorem WaySt.did {w0 : World} {vb : Nat} {fold : Bool} {u u' : World} {wv v v' : Value} {vs : List Value} {Ls : List (List EntD)} {Lk M : List EntD} (h : WaySt w0 vb fold u wv vs Ls v Lk) (hk : Vk 60 u' vb v' fold 9223372036854775807 [.string ⟨#[]⟩]) (ho : u'.ownsRow u.heap.size 54 5 v' M.length (flatE M)) (hg : u.grownBy u' (some vb)) : WaySt w0 vb fold u' wv vs Ls v' M where
  bel := h.bel.grown hg h.bel.size (fun q hq => by cases hq; exact h.vbge)
  vbge := h.vbge
  vol := hk
  way := own_vk h.way h.vol (by decide) hg
  len := h.len
  rows := fun j h1 h2 => (h.rows j h1 h2).imp id (fun o => own_vk o h.vol (by decide) hg)
  cur := .inr (own_mono ho h.bel.size)
/-- .. and its tree is put behind the others. -/
theorem WaySt.put {w0 : World} {vb : Nat} {fold : Bool} {u u' : World} {wv v wv' : Value} {vs : List Value} {Ls : List (List EntD)} {Lk : List EntD} (h : WaySt w0 vb fold u wv vs Ls v Lk) (ho : u'.ownsRow w0.heap.size 22 1 wv' (vs.length + 1) (vs ++ [v])) (hg : u.grownBy u' wv.ownBlock) : WaySt w0 vb fold u' wv' (vs ++ [v]) (Ls ++ [Lk]) v Lk where
  bel := h.bel.grown hg h.bel.size (fun q hq => (h.way.lt q hq).1)
  vbge := h.vbge
  vol := vk_own h.vol h.way (by decide) hg
  way := by rw [List.length_append]; exact ho
  len := by simp [h.len]
  rows := fun j h1 h2 => by
    have hcur : RowAt w0 v Lk ∨ u'.ownsRow w0.heap.size 54 5 v Lk.length (flatE Lk) := h.cur.imp id (fun o => own_keep2 o h.way (by decide) hg)
    by_cases hj : j < vs.length
    · rw [List.getElem_append_left hj, List.getElem_append_left (by rw [← h.len]; exact hj)]
      exact (h.rows j hj (by rw [← h.len]; exact hj)).imp id (fun o => own_keep2 o h.way (by decide) hg)
    · have e1 : j = vs.length := by simp at h1; omega
      subst e1
      rw [List.getElem_append_right (Nat.le_refl _), List.getElem_append_right (by rw [← h.len]; exact Nat.le_refl _)]
      simp only [h.len, Nat.sub_self, List.getElem_cons_zero]
      exact hcur
  cur := h.cur.imp id (fun o => own_keep2 o h.way (by decide) hg)

/-- The need so far. -/
def needL (n : Int) (Ls : List (List EntD)) : Int := Ls.foldl (fun a M => max a (usedL M)) n
theorem needL_snoc (n : Int) (Ls : List (List EntD)) (M : List EntD) : needL n (Ls ++ [M]) = max (needL n Ls) (usedL M) := by simp [needL, List.foldl_append]
theorem try_step {fold : Bool} {space : Int} {L : List EntD} {need : Int} {l : List OpD} {k : Nat} (h : k < l.length) : tryL fold space L need (l.drop k) k = match doL fold space L l[k] with | .error c => .error (c, k) | .ok L' => tryL fold space L' (max need (usedL L')) (l.drop (k + 1)) (k + 1) := by
  rw [List.drop_eq_getElem_cons h, tryL]
  cases doL fold space L l[k] <;> rfl

/-- What Try comes to, said plainly: the error and its place; or the tree and the need. -/
def tryP (fold : Bool) (space : Int) (L : List EntD) (l : List OpD) : Except (Int × Int) (List EntD × Int) :=
  if treeF fold L = false then .error (4, 0)
  else if (fwrong l 0).2 = true then .error (18, (fwrong l 0).1)
  else match tryL fold space L (usedL L) l 0 with
    | .error (c, k) => .error (c, (k : Int))
    | .ok x => .ok x
theorem script_good {l : List OpD} (h : (fwrong l 0).2 = false) : l.length ≤ 400 ∧ ∀ o ∈ l, okOp o = true := by
  rw [fwrong_scriptB] at h
  simp only [scriptB, Bool.not_eq_false', Bool.and_eq_true, decide_eq_true_eq, List.all_eq_true] at h
  exact h
theorem do_err {fold : Bool} {space : Int} {L : List EntD} {o : OpD} {n : Int} (h : doL fold space L o = .error n) : n ≠ 0 := by
  have mk : ∀ e n, mkL fold space L e = .error n → n ≠ 0 := by
    intro e n h
    unfold mkL at h
    split at h
    · cases h; decide
    · split at h
      · cases h; decide
      · split at h
        · cases h; decide
        · split at h
          · cases h; decide
          · split at h
            · cases h; decide
            · cases h
  unfold doL at h
  split at h
  · exact mk _ _ h
  · split at h
    · exact mk _ _ h
    · split at h
      · cases h; decide
      · split at h
        · cases h
        · split at h
          · unfold renL at h
            split at h
            · cases h; decide
            · split at h
              · cases h; decide
              · split at h
                · cases h; decide
                · split at h
                  · cases h; decide
                  · cases h
          · split at h
            · cases h; decide
            · split at h
              · exact mk _ _ h
              · split at h
                · cases h; decide
                · cases h
end Go.Proofs.YtemkpollilhmjaaGreatDoor

/- A script's course: the trees that come of its first operations. -/
namespace Go.Proofs.YtemkpollilhmjaaGreatDoor
open Go.RowKit
set_option linter.unusedVariables false
set_option linter.unusedSimpArgs false

theorem info22 : (Tryz.prog.info? 22).map (fun i => (i.zero, i.size, i.bytes)) = some (some (.slice none 0 0), 1, 24) := by kernel_rfl

theorem vDo {u : World} {vb : Nat} {v : Value} {L : List EntD} {fold : Bool} {space : Int} {rest : List Value} (hk : Vk 60 u vb v fold space rest) (hr : RowAt u v L) (K : VolOk fold L) (hg : Gd u) (o : OpD) (hok : okOp o = true) (hsm : o.small) (h0 : 0 ≤ space) (h1 : space ≤ 9223372036854775807) :
    Calls Tryz.prog 48 #[.pointer (some ⟨vb, 0, none⟩), .agg #[.int .i64 o.kind, .string o.path, .string o.dest, .int .i64 o.id, .int .i64 o.size, .int .i64 o.mode]] u fun r w' => DoA 60 u vb fold space rest (doL fold space L o) r w' := by
  refine vDo_of hk o.kind o.path o.dest o.id o.size o.mode _ (fun u1 hu => ?_) (fun u1 hu => ?_) (fun n hn => do_err hn)
  · have := isOp_any o u1 (hg.below hu) hsm
    rwa [hok] at this
  · refine vafter o.kind o.path o.dest o.id o.size o.mode (okOp_good hok).kinds _ (fun u2 hu2 => ?_)
    have hu' : Below u.heap.size u u2 := hu.trans (hu2.mono hu.size)
    exact vops (Vm.of K (hk.vol.below hu' hk.lt) (hr.below hu' (Nat.le_refl _)) h0 h1) K o hsm (okOp_good hok)

/-- What course answers. -/
def CrsA (w : World) (fold : Bool) (x : Except (Int × Int) (List EntD × Int)) (n : Nat) (r : Ending) (w' : World) : Prop :=
  match x with
  | .error (c, k) => r = .returned (.tuple #[.slice none 0 0, .int .i64 c, .int .i64 k]) ∧ c ≠ 0 ∧ Below w.heap.size w w'
  | .ok (M, need) => ∃ (g cap : Nat) (vs : List Value) (Ls : List (List EntD)), r = .returned (.tuple #[.slice (some ⟨g, 0, none⟩) (n + 1) cap, .int .i64 0, .int .i64 0]) ∧ Below w.heap.size w w' ∧ vs.length = n + 1 ∧ Ls.length = n + 1 ∧ (∀ (j : Nat) (h : j < vs.length), w'.cell? ⟨g, j, none⟩ = some vs[j]) ∧ (∀ (j : Nat) (h : j < vs.length) (h' : j < Ls.length), RowAt w' vs[j] Ls[j]) ∧ (∀ N ∈ Ls, VolOk fold N) ∧ Ls[n]? = some M ∧ needL 0 Ls = need

theorem WaySt.start {w w2 : World} {sv : Value} {L : List EntD} {fold : Bool} (hr : RowAt w sv L) (hb : Below w.heap.size w w2) :
    WaySt w w2.heap.size fold ((w2.alloc (.cells #[sv, .bool fold, .int .i64 9223372036854775807, .string ⟨#[]⟩] 60)).alloc (.cells #[sv] 22)) (.slice (some ⟨w2.heap.size + 1, 0, none⟩) 1 1) [sv] [L] sv L where
  bel := (hb.alloc hb.size _).alloc (by have := hb.size; simp; omega) _
  vbge := hb.size
  vol := by
    unfold Vk
    exact ((World.grownBy_alloc _ _ none).block _ (by simp) (by simp)).trans (heap_alloc_new w2 _)
  way := by
    have := World.ownsRow_lit (base := w.heap.size) (e := 22) (size := 1) (w2.alloc (.cells #[sv, .bool fold, .int .i64 9223372036854775807, .string ⟨#[]⟩] 60)) #[sv] 1 (by have := hb.size; simp; omega) (by unfold maxLen; omega) rfl
    simpa using this
  len := rfl
  rows := fun j h1 h2 => by
    obtain rfl : j = 0 := by simp at h1; omega
    exact .inl hr
  cur := .inl hr

theorem way_form {u : World} {B : Nat} {wv : Value} {vs : List Value} (h : u.ownsRow B 22 1 wv vs.length vs) (hn : 0 < vs.length) : ∃ g cap, wv = .slice (some ⟨g, 0, none⟩) vs.length cap ∧ ∀ (j : Nat) (h : j < vs.length), u.cell? ⟨g, j, none⟩ = some vs[j] := by
  rcases h.2 with ⟨rfl, h0⟩ | ⟨g, cap, cur, rfl, _⟩
  · omega
  · refine ⟨g, cap, rfl, fun j hj => ?_⟩
    rw [h.cellAt j (by omega), List.getElem?_eq_getElem hj]
theorem cell_new22 (u : World) (v : Value) : ∀ j x, [v][j]? = some x → (u.alloc (.cells #[v] 22)).cell? ((⟨u.heap.size, 0, none⟩ : Addr).add j) = some x := by
  intro j x hx
  have : (⟨u.heap.size, 0, none⟩ : Addr).add j = ⟨u.heap.size, j, none⟩ := by unfold Addr.add; split <;> simp_all
  rw [this, cell_of_row _ _ _ #[v] 22 (0, 0) (heap_alloc_new u _)]
  simpa using hx

set_option maxHeartbeats 8000000 in
set_option maxRecDepth 100000 in
theorem vcourse {w : World} {sv lv : Value} {L : List EntD} {l : List OpD} (fold : Bool) (hr : RowAt w sv L) (hs : SmallL L) (hg : Gd w) (ho : OpRow w lv l) (hl : l.length ≤ 2000000) (hos : ∀ o ∈ l, o.small) (X : Except (Int × Int) (List EntD × Int)) (hX : tryP fold 9223372036854775807 L l = X) :
    Calls Tryz.prog 30 #[sv, .bool fold, lv] w fun r w' => CrsA w fold X l.length r w' := by
  obtain ⟨i0, hi, hz0, hz1, hz2⟩ := info_parts info22
  have HC := hidD (treesCheckF fold hr hs)
  have HW := hidD (fun (u : World) (hu : Below w.heap.size w u) => firstWrongF (hg.below hu) (ho.below hu (Nat.le_refl _)) hl hos)
  have HX := hidD hX
  have HR := hidD hr
  have HO := hidD ho
  have HG := hidD hg
  have HOS := hidD hos
  obtain ⟨sa, sc, rfl⟩ := hr.val
  obtain ⟨la, lc, rfl⟩ := ho.val
  clear hX hr ho hg hos
  cases ht : treeF fold L
  · rw [ht] at HC
    have hX := HX.out
    rw [tryP, if_pos ht] at hX
    subst hX
    clear HX
    unfold CrsA
    go_enter Tryz.func30, Tryz.ntmps30
    go_wp2_with (go_at_call 46; refine HC.out.mono ?_; rintro r w1 ⟨c, k, rfl, hck, hb1⟩; have hcn : (c != 0) = true := (by simp only [bne, hck]; rfl))
    go_ret3
    exact ⟨rfl, by decide, hb1⟩
  · rw [ht] at HC
    have HT := hidD ht
    have hX := HX.out
    rw [tryP, if_neg (by rw [ht]; decide)] at hX
    clear ht
    cases hf : (fwrong l 0).2
    · have hsg := script_good hf
      rw [if_neg (by rw [hf]; decide)] at hX
      rw [hf] at HW
      have HX2 := hidD hX
      have HSG := hidD hsg.2
      have hl4 := hsg.1
      clear hX hsg HX hf
      generalize (fwrong l 0).1 = fa at *
      go_enter Tryz.func30, Tryz.ntmps30
      go_wp2_with (first | (go_at_call 46; refine HC.out.mono ?_; rintro r w1 ⟨c, k, rfl, hck, hb1⟩; have hcn : (c != 0) = false := (by simp only [bne, hck]; rfl)) | (go_at_call 47; refine (HW.out _ hb1).mono ?_; rintro r w2 ⟨rfl, hb2⟩; have u2 := hb1.trans (hb2.mono hb1.size)))
      have s3 := WaySt.start (fold := fold) HR.out u2
      have K0 := tree_vol HT.out
      have hn0 : needL 0 [L] = usedL L := by
        have := (used_le K0).1
        simp only [needL, List.foldl_cons, List.foldl_nil]
        omega
      have I0 := hidD (show VolOk fold L ∧ (∀ N ∈ [L], VolOk fold N) ∧ [L][0]? = some L ∧ tryL fold 9223372036854775807 L (usedL L) l 0 = tryL fold 9223372036854775807 L (needL 0 [L]) (l.drop 0) 0 from ⟨K0, by simpa using K0, rfl, by rw [hn0, List.drop_zero]⟩)
      have S3 := hidD s3
      have hvbs := u2.size
      clear hn0 K0 s3 HC HW hb1 hb2 u2 hcn hck
      generalize hvb : w2.heap.size = vb at *
      go_loopw [14, 40] (fun wv iv wr => ∃ (k : Nat) (vs : List Value) (Ls : List (List EntD)) (v : Value) (Lk : List EntD), k ≤ l.length ∧ iv = .int .i64 k ∧ vs.length = k + 1 ∧ Hid (WaySt w vb fold wr wv vs Ls v Lk) ∧ Hid (VolOk fold Lk ∧ (∀ N ∈ Ls, VolOk fold N) ∧ Ls[k]? = some Lk ∧ tryL fold 9223372036854775807 L (usedL L) l 0 = tryL fold 9223372036854775807 Lk (needL 0 Ls) (l.drop k) k)) (fun _ iv _ => l.length - (intOf iv).toNat)
      case atStart => exact ⟨0, _, _, _, _, Nat.zero_le _, rfl, rfl, S3, I0⟩
      case round =>
        clear S3 I0
        obtain ⟨k, vs, Ls, v, Lk, hk, rfl, hvl, S, I⟩ := hrel
        by_cases hlk : k < l.length
        · obtain ⟨b2, off2, rfl, _, hlb2, hops⟩ := op_parts HO.out hlk
          have hcw := (hops.below S.out.bel hlb2) k hlk
          have c0 : wr.cell? ⟨b2, off2 + k * 6, none⟩ = some (.int .i64 l[k].kind) := hcw 0 _ rfl
          have c1 := hcw 1 _ rfl
          have c2 := hcw 2 _ rfl
          have c3 := hcw 3 _ rfl
          have c4 := hcw 4 _ rfl
          have c5 := hcw 5 _ rfl
          have hok := HSG.out _ (List.getElem_mem hlk)
          have hsm := HOS.out _ (List.getElem_mem hlk)
          have HTS := hidD (fun need => try_step (fold := fold) (space := 9223372036854775807) (L := Lk) (need := need) hlk)
          generalize l[k] = o at *
          clear hcw hops
          have S1 := hidD (S.out.below ((Below.refl _ _).alloc (Nat.le_refl _) (.cells #[.int .i64 o.kind, .string o.path, .string o.dest, .int .i64 o.id, .int .i64 o.size, .int .i64 o.mode] 82)))
          have HD := hidD (vDo S1.out.vol (row_of S1.out.bel S1.out.cur) I.out.1 (HG.out.below S1.out.bel) o hok hsm (by decide) (by decide))
          have hsz := S1.out.bel.size
          cases hd : doL fold 9223372036854775807 Lk o with
          | error n =>
            have hn : (n != 0) = true := by simpa using do_err hd
            have hXE : X = .error (n, (k : Int)) := by
              rw [← HX2.out, I.out.2.2.2, HTS.out, hd]
            have HXE := hidD hXE
            have hn0 := do_err hd
            rw [hd] at HD
            unfold DoA at HD
            clear hXE hd HX2
            go_wp2_with (go_at_call 48; refine HD.out.mono ?_; rintro r w5 ⟨rfl, hb5⟩)
            go_ret3
            rw [HXE.out]
            exact ⟨rfl, hn0, (S1.out.below hb5).bel⟩
          | ok M =>
            have KM := do_ok I.out.1 (okOp_good hok) hd
            have I2 := hidD (show VolOk fold M ∧ (∀ N ∈ Ls ++ [M], VolOk fold N) ∧ (Ls ++ [M])[k + 1]? = some M ∧ tryL fold 9223372036854775807 L (usedL L) l 0 = tryL fold 9223372036854775807 M (needL 0 (Ls ++ [M])) (l.drop (k + 1)) (k + 1) from ⟨KM, fun N hN => by
                rcases List.mem_append.1 hN with h | h
                · exact I.out.2.1 N h
                · rw [List.mem_singleton.1 h]; exact KM, by rw [← hvl, S.out.len]; simp, by rw [I.out.2.2.2, HTS.out, hd, needL_snoc]⟩)
            rw [hd] at HD
            unfold DoA at HD
            clear hd KM HTS
            go_wp2_with (first | (go_at_call 48; refine HD.out.mono ?_; rintro r w5 ⟨rfl, v5, hk5, ho5, hg5⟩; obtain ⟨a5, n5, q5, hv5⟩ := own_shape ho5; subst hv5; have S5 := S1.out.did hk5 ho5 hg5; have e0 := hk5.vol.c0; have hw5 := S5.bel.size) | (at_builtin; refine wpList_append_own _ rfl (.tmp 51) (.tmp 54) 26 rfl w.heap.size 22 i0 _ 1 24 Tryz.underlying26 hi hz0 hz1 hz2 rfl (by decide) _ _ _ rfl (S5.way.alloc _) ⟨_, 0, none⟩ 1 1 [.slice a5 n5 q5] rfl rfl (cell_new22 w5 _) (by intro x hx; rw [List.mem_singleton.1 hx]; rfl) (by unfold maxLen; omega) (by omega) (by simp only [World.size_alloc]; omega) ?_; intro v6 w6 hown6 hg6 _))
            exact ⟨⟨k + 1, _, _, _, _, by omega, by go_num, by rw [List.length_append, hvl]; rfl, hidD ((S5.below ((Below.refl _ _).alloc (Nat.le_refl _) _)).put hown6 hg6), I2⟩, by simp [intOf]; omega⟩
        · obtain ⟨g, cap, hwv, hcells⟩ := way_form S.out.way (by omega)
          subst hwv
          obtain rfl : k = l.length := by omega
          have hXE : X = .ok (Lk, needL 0 Ls) := by
            rw [← HX2.out, I.out.2.2.2, List.drop_length, tryL]
          have HXE := hidD hXE
          have HCE := hidD hcells
          clear hXE HX2 hcells
          go_wp2
          go_ret3
          rw [HXE.out]
          have hL := S.out.len
          exact ⟨g, cap, vs, Ls, by rw [hvl]; rfl, S.out.bel, hvl, by omega, HCE.out, fun j h1 h2 => row_of S.out.bel (S.out.rows j h1 h2), I.out.2.1, I.out.2.2.1, rfl⟩
    · rw [if_pos hf] at hX
      rw [hf] at HW
      clear HX hf
      generalize (fwrong l 0).1 = fa at *
      subst hX
      unfold CrsA
      go_enter Tryz.func30, Tryz.ntmps30
      go_wp2_with (first | (go_at_call 46; refine HC.out.mono ?_; rintro r w1 ⟨c, k, rfl, hck, hb1⟩; have hcn : (c != 0) = false := (by simp only [bne, hck]; rfl)) | (go_at_call 47; refine (HW.out _ hb1).mono ?_; rintro r w2 ⟨rfl, hb2⟩; have u2 := hb1.trans (hb2.mono hb1.size)))
      go_ret3
      exact ⟨rfl, by decide, u2⟩
end Go.Proofs.YtemkpollilhmjaaGreatDoor

/- The program's Try. -/
namespace Go.Proofs.YtemkpollilhmjaaGreatDoor
open Go.RowKit
set_option linter.unusedVariables false
set_option linter.unusedSimpArgs false

theorem results_tmp4 {fn : Func} {t u v x : Tmp} (h : fn.results = #[.tmp t, .tmp u, .tmp v, .tmp x]) (tmps : Array Value) (P : Program) (w : World) :
    (results fn tmps).run P w = .ok (.tuple #[tmps.getD t undef, tmps.getD u undef, tmps.getD v undef, tmps.getD x undef]) w := by
  simp [results, h]

theorem vclone {w : World} {v : Value} {L : List EntD} (hr : RowAt w v L) (hl : L.length ≤ 1000) :
    Calls Tryz.prog 32 #[v] w fun e w' => ∃ v', e = .returned v' ∧ w'.ownsRow w.heap.size 54 5 v' L.length (flatE L) ∧ Below w.heap.size w w' := by
  cases hr with
  | nil => exact (clone_nil w).mono (by rintro e w' ⟨rfl, rfl⟩; exact ⟨_, rfl, World.ownsRow_nil _ _ _ _, Below.refl _ _⟩)
  | row b off cap l hlb hc hm h => exact clone_row b off cap L w hl hlb h

/-- What Try answers. -/
def TryA (w : World) (x : Except (Int × Int) (List EntD × Int)) (r : Ending) (w' : World) : Prop :=
  match x with
  | .error (c, k) => r = .returned (.tuple #[.slice none 0 0, .int .i64 0, .int .i64 c, .int .i64 k]) ∧ Below w.heap.size w w'
  | .ok (M, need) => ∃ v, r = .returned (.tuple #[v, .int .i64 need, .int .i64 0, .int .i64 0]) ∧ w'.ownsRow w.heap.size 54 5 v M.length (flatE M) ∧ Below w.heap.size w w'

theorem needL_take (n : Int) (Ls : List (List EntD)) (k : Nat) (h : k < Ls.length) : needL n (Ls.take (k + 1)) = max (needL n (Ls.take k)) (usedL Ls[k]) := by
  rw [List.take_succ_eq_append_getElem h, needL_snoc]
theorem needL_le {fold : Bool} (Ls : List (List EntD)) (h : ∀ N ∈ Ls, VolOk fold N) : ∀ n, 0 ≤ n → n ≤ 12000 → 0 ≤ needL n Ls ∧ needL n Ls ≤ 12000 := by
  induction Ls with
  | nil => intro n h0 h1; exact ⟨h0, h1⟩
  | cons N Ls ih =>
    intro n h0 h1
    have := used_le (h N (by simp))
    exact ih (fun M hM => h M (by simp [hM])) (max n (usedL N)) (by omega) (by omega)

set_option maxHeartbeats 8000000 in
set_option maxRecDepth 100000 in
theorem vTry {w : World} {sv lv : Value} {L : List EntD} {l : List OpD} (fold : Bool) (hr : RowAt w sv L) (hs : SmallL L) (hg : Gd w) (ho : OpRow w lv l) (hl : l.length ≤ 2000000) (hos : ∀ o ∈ l, o.small) (X : Except (Int × Int) (List EntD × Int)) (hX : tryP fold 9223372036854775807 L l = X) :
    Calls Tryz.prog 21 #[sv, .bool fold, lv] w fun r w' => TryA w X r w' := by
  have HC := hidD (vcourse fold hr hs hg ho hl hos X hX)
  obtain ⟨sa, sc, rfl⟩ := hr.val
  obtain ⟨la, lc, rfl⟩ := ho.val
  clear hX hr ho hg hos
  cases X with
  | error ck =>
    obtain ⟨c, k⟩ := ck
    unfold CrsA at HC
    unfold TryA
    go_enter Tryz.func21, Tryz.ntmps21
    go_wp2_with (go_at_call 30; refine HC.out.mono ?_; rintro r w1 ⟨rfl, hc0, hb1⟩; have hcn : (c != 0) = true := (by simpa using hc0))
    refine bodyPost_ret (results_tmp4 rfl _ _ _) rfl ?_
    exact ⟨rfl, hb1⟩
  | ok mn =>
    obtain ⟨M, need⟩ := mn
    unfold CrsA at HC
    unfold TryA
    go_enter Tryz.func21, Tryz.ntmps21
    go_wp2_with (go_at_call 30; refine HC.out.mono ?_; rintro r w1 ⟨g, cap, vs, Ls, rfl, hb1, hvl, hLl, hcells, hrows, hok, hM, hneed⟩)
    have HCE := hidD hcells
    have HRW := hidD hrows
    have HOK := hidD hok
    have HM := hidD hM
    have HN := hidD hneed
    have HB1 := hidD hb1
    have hb1s := hb1.size
    clear hcells hrows hok hM hneed hb1
    go_loopw [13, 30] (fun mv iv wr => ∃ k : Nat, k ≤ l.length + 1 ∧ iv = .int .i64 k ∧ mv = .int .i64 (needL 0 (Ls.take k)) ∧ Hid (Below w1.heap.size w1 wr)) (fun _ iv _ => l.length + 1 - (intOf iv).toNat)
    case atStart => exact ⟨0, Nat.zero_le _, rfl, rfl, hidD (Below.refl _ _)⟩
    case round =>
      obtain ⟨k, hk, rfl, rfl, HB⟩ := hrel
      by_cases hlk : k < l.length + 1
      · have hkv : k < vs.length := by omega
        have hkL : k < Ls.length := by omega
        have hgw : g < w1.heap.size := World.block_lt_of_cell? w1 ⟨g, k, none⟩ (HCE.out k hkv)
        have c0 := cell_kept HB.out hgw (HCE.out k hkv)
        have K := HOK.out _ (List.getElem_mem hkL)
        have HZ := hidD (vsizes (HRW.out k hkv hkL) K.few K.sizesOk wr HB.out)
        obtain ⟨av, cv, hval⟩ := (HRW.out k hkv hkL).val
        have HNT := hidD (needL_take 0 Ls k hkL)
        have hn1 := needL_le (Ls.take k) (fun N hN => HOK.out N (List.mem_of_mem_take hN)) 0 (by omega) (by omega)
        have hu1 := used_le K
        obtain ⟨hn2, hn3⟩ := hn1
        obtain ⟨hu2, hu3⟩ := hu1
        rw [hval] at c0 HZ
        generalize Ls[k].length = nn at *
        generalize usedL Ls[k] = us at *
        generalize needL 0 (Ls.take k) = nd at *
        clear hval K
        go_wp2_with (go_at_call 31; refine HZ.out.mono ?_; rintro r w3 ⟨rfl, hb3⟩)
        refine ⟨⟨k + 1, by omega, by go_num, ?_, hidD (HB.out.trans (hb3.mono HB.out.size))⟩, by simp [intOf]; omega⟩
        rw [HNT.out]
      · have hkv : l.length < vs.length := by omega
        have hkL : l.length < Ls.length := by omega
        obtain rfl : k = l.length + 1 := by omega
        have hgw : g < w1.heap.size := World.block_lt_of_cell? w1 ⟨g, l.length, none⟩ (HCE.out l.length hkv)
        have c0 := cell_kept HB.out hgw (HCE.out l.length hkv)
        have K := HOK.out _ (List.getElem_mem hkL)
        have hML : Ls[l.length] = M := by
          have := HM.out
          rw [List.getElem?_eq_getElem hkL] at this
          exact Option.some.inj this
        have hr5 := (HRW.out l.length hkv hkL).below HB.out (Nat.le_refl _)
        rw [hML] at hr5 K
        have HZ := hidD (vclone hr5 (by have := K.few; omega))
        obtain ⟨av, cv, hval⟩ := hr5.val
        rw [hval] at c0 HZ
        have HNN : Hid (needL 0 (Ls.take (l.length + 1)) = need) := by
          show needL 0 (Ls.take (l.length + 1)) = need
          rw [List.take_of_length_le (by omega)]; exact HN.out
        rw [HNN.out]
        have hbs := HB.out.size
        clear hr5 hval K hML HNN HN
        go_wp2_with (go_at_call 32; refine HZ.out.mono ?_; rintro r w4 ⟨v4, rfl, hown4, hb4⟩; obtain ⟨a4, n4, q4, hv4⟩ := own_shape hown4; subst hv4)
        refine bodyPost_ret (results_tmp4 rfl _ _ _) rfl ?_
        exact ⟨_, rfl, own_mono (B' := w.heap.size) hown4 (by omega), (HB1.out.trans (HB.out.mono hb1s)).trans (hb4.mono (by omega))⟩
end Go.Proofs.YtemkpollilhmjaaGreatDoor

/- A volume's Do at whatever block it lies in; convoy's Do, Tree and Journal. -/
namespace Go.Proofs.YtemkpollilhmjaaGreatDoor
open Go.RowKit
set_option linter.unusedVariables false
set_option linter.unusedSimpArgs false

set_option maxHeartbeats 4000000 in
set_option maxRecDepth 100000 in
theorem vDoT_of {T : TypeId} {w : World} {vb : Nat} {v : Value} {fold : Bool} {space : Int} {rest : List Value} (hv : Vk T w vb v fold space rest) (kind : Int) (path dest : ByteArray) (id size mode : Int) (x : Except Int (List EntD))
    (H1 : ∀ u : World, Below w.heap.size w u → Calls Tryz.prog 71 #[.agg #[.int .i64 kind, .string path, .string dest, .int .i64 id, .int .i64 size, .int .i64 mode]] u fun e w' => e = .returned (.bool true) ∧ Below u.heap.size u w')
    (H2 : ∀ u : World, Below w.heap.size w u → Calls Tryz.prog 72 #[.pointer (some ⟨vb, 0, none⟩), .agg #[.int .i64 kind, .string path, .string dest, .int .i64 id, .int .i64 size, .int .i64 mode]] u fun r w' => Ans u.heap.size x r w' ∧ Below u.heap.size u w')
    (hx : ∀ n, x = .error n → n ≠ 0) :
    Calls Tryz.prog 48 #[.pointer (some ⟨vb, 0, none⟩), .agg #[.int .i64 kind, .string path, .string dest, .int .i64 id, .int .i64 size, .int .i64 mode]] w fun r w' => DoA T w vb fold space rest x r w' := by
  have ST := hidD (Ob.start w ⟨kind, path, dest, id, size, mode⟩)
  have HA := hidD H1
  have HB := hidD H2
  have HV := hidD hv
  have hvlt := hv.lt
  clear H1 H2 hv
  cases x with
  | error n =>
    have hn : (n == 0) = false := by simpa using hx n rfl
    clear hx
    unfold Ans at HB
    unfold DoA
    go_enter Tryz.func48, Tryz.ntmps48
    go_wp2_with (first | (go_at_call 71; refine (HA.out _ ST.out.bel).mono ?_; rintro r w1 ⟨rfl, hb1⟩; have s1 := ST.out.below hb1; have d0 := s1.cell 0; have d1 := s1.cell 1; have d2 := s1.cell 2; have d3 := s1.cell 3; have d4 := s1.cell 4; have d5 := s1.cell 5; simp [OpD.cells] at d0 d1 d2 d3 d4 d5) | (go_at_call 72; refine (HB.out _ s1.bel).mono ?_; rintro r w2 ⟨rfl, hb2⟩; have s2 := s1.below hb2))
    go_ret
    exact ⟨rfl, s2.bel⟩
  | ok M =>
    clear hx
    unfold Ans at HB
    unfold DoA
    go_enter Tryz.func48, Tryz.ntmps48
    go_wp2_with (first | (go_at_call 71; refine (HA.out _ ST.out.bel).mono ?_; rintro r w1 ⟨rfl, hb1⟩; have s1 := ST.out.below hb1; have d0 := s1.cell 0; have d1 := s1.cell 1; have d2 := s1.cell 2; have d3 := s1.cell 3; have d4 := s1.cell 4; have d5 := s1.cell 5; simp [OpD.cells] at d0 d1 d2 d3 d4 d5) | (go_at_call 72; refine (HB.out _ s1.bel).mono ?_; rintro r w2 ⟨⟨v2, rfl, hown2⟩, hb2⟩; have s2 := s1.below hb2; obtain ⟨a2, m2, c2, hv2⟩ := own_shape hown2; subst hv2; have k2 := HV.out.below s2.bel hvlt; have f2 := k2.frozen 0; have e2 := k2.vol.c0))
    go_ret
    obtain ⟨q1, q2⟩ := k2.set (.slice a2 m2 c2)
    refine ⟨rfl, _, q1, ?_, grown_of s2.bel q2⟩
    have h3 := own_mono hown2 s1.bel.size
    refine h3.kept q2 ?_
    cases hb : (Value.slice a2 m2 c2).ownBlock with
    | none => exact .inl rfl
    | some g => exact .inr (fun e => by have := (h3.lt g hb).1; cases e; omega)
theorem vDoT_good {T : TypeId} {u : World} {vb : Nat} {v : Value} {L : List EntD} {fold : Bool} {space : Int} {rest : List Value} (hk : Vk T u vb v fold space rest) (hr : RowAt u v L) (K : VolOk fold L) (hg : Gd u) (o : OpD) (hok : okOp o = true) (hsm : o.small) (h0 : 0 ≤ space) (h1 : space ≤ 9223372036854775807) :
    Calls Tryz.prog 48 #[.pointer (some ⟨vb, 0, none⟩), .agg #[.int .i64 o.kind, .string o.path, .string o.dest, .int .i64 o.id, .int .i64 o.size, .int .i64 o.mode]] u fun r w' => DoA T u vb fold space rest (doL fold space L o) r w' := by
  refine vDoT_of hk o.kind o.path o.dest o.id o.size o.mode _ (fun u1 hu => ?_) (fun u1 hu => ?_) (fun n hn => do_err hn)
  · have := isOp_any o u1 (hg.below hu) hsm
    rwa [hok] at this
  · refine vafter o.kind o.path o.dest o.id o.size o.mode (okOp_good hok).kinds _ (fun u2 hu2 => ?_)
    have hu' : Below u.heap.size u u2 := hu.trans (hu2.mono hu.size)
    exact vops (Vm.of K (hk.vol.below hu' hk.lt) (hr.below hu' (Nat.le_refl _)) h0 h1) K o hsm (okOp_good hok)

/-- What a volume answers to whatever operation. -/
def doesL (fold : Bool) (space : Int) (L : List EntD) (o : OpD) : Except Int (List EntD) := if okOp o = true then doL fold space L o else .error 18

set_option maxHeartbeats 4000000 in
set_option maxRecDepth 100000 in
theorem vDoT_bad {w : World} (vb : Nat) (o : OpD) (hg : Gd w) (hsm : o.small) (hok : okOp o = false) :
    Calls Tryz.prog 48 #[.pointer (some ⟨vb, 0, none⟩), .agg #[.int .i64 o.kind, .string o.path, .string o.dest, .int .i64 o.id, .int .i64 o.size, .int .i64 o.mode]] w fun r w' => r = .returned (.int .i64 18) ∧ Below w.heap.size w w' := by
  have ST := hidD (Ob.start w o)
  have HA := hidD (fun (u : World) (hu : Below w.heap.size w u) => isOp_any o u (hg.below hu) hsm)
  rw [hok] at HA
  obtain ⟨kind, path, dest, id, size, mode⟩ := o
  dsimp only at *
  clear hg
  go_enter Tryz.func48, Tryz.ntmps48
  go_wp2_with (go_at_call 71; refine (HA.out _ ST.out.bel).mono ?_; rintro r w1 ⟨rfl, hb1⟩; have s1 := ST.out.below hb1)
  go_ret
  exact ⟨rfl, s1.bel⟩
theorem vDoT {T : TypeId} {u : World} {vb : Nat} {v : Value} {L : List EntD} {fold : Bool} {space : Int} {rest : List Value} (hk : Vk T u vb v fold space rest) (hr : RowAt u v L) (K : VolOk fold L) (hg : Gd u) (o : OpD) (hsm : o.small) (h0 : 0 ≤ space) (h1 : space ≤ 9223372036854775807) :
    Calls Tryz.prog 48 #[.pointer (some ⟨vb, 0, none⟩), .agg #[.int .i64 o.kind, .string o.path, .string o.dest, .int .i64 o.id, .int .i64 o.size, .int .i64 o.mode]] u fun r w' => DoA T u vb fold space rest (doesL fold space L o) r w' := by
  unfold doesL
  cases hok : okOp o
  · rw [if_neg (by decide)]
    exact vDoT_bad vb o hg hsm hok
  · rw [if_pos rfl]
    exact vDoT_good hk hr K hg o hok hsm h0 h1

theorem DoA.retD {T : TypeId} {w : World} {vb : Nat} {fold : Bool} {space : Int} {rest : List Value} {x : Except Int (List EntD)} {r : Ending} {w' : World} (h : DoA T w vb fold space rest x r w') : ∃ n : Int, r = .returned (.int .i64 n) := by
  cases x with
  | error n => exact ⟨n, h.1⟩
  | ok M => exact ⟨0, h.1⟩
theorem DoA.from_below {T : TypeId} {w u : World} {vb : Nat} {fold : Bool} {space : Int} {rest : List Value} {x : Except Int (List EntD)} {r : Ending} {w' : World} (hb : Below w.heap.size w u) (h : DoA T u vb fold space rest x r w') : DoA T w vb fold space rest x r w' := by
  cases x with
  | error n => exact ⟨h.1, hb.trans (h.2.mono hb.size)⟩
  | ok M =>
    obtain ⟨h1, v', h2, h3, h4⟩ := h
    exact ⟨h1, v', h2, own_mono h3 hb.size, grown_of hb h4⟩

set_option maxHeartbeats 4000000 in
theorem vTree {T : TypeId} {w : World} {vb : Nat} {v : Value} {L : List EntD} {fold : Bool} {space : Int} {rest : List Value} (hk : Vk T w vb v fold space rest) (hr : RowAt w v L) (hl : L.length ≤ 1000) :
    Calls Tryz.prog 27 #[.pointer (some ⟨vb, 0, none⟩)] w fun e w' => ∃ v', e = .returned v' ∧ w'.ownsRow w.heap.size 54 5 v' L.length (flatE L) ∧ Below w.heap.size w w' := by
  have HC := hidD (vclone hr hl)
  have c0 := hk.vol.c0
  obtain ⟨a, c, rfl⟩ := hr.val
  clear hk hr
  go_enter Tryz.func27, Tryz.ntmps27
  go_wp2_with (go_at_call 32; refine HC.out.mono ?_; rintro r w1 ⟨v1, rfl, hown1, hb1⟩; obtain ⟨a4, n4, q4, hv4⟩ := own_shape hown1; subst hv4)
  go_ret
  exact ⟨_, rfl, hown1, hb1⟩
set_option maxHeartbeats 4000000 in
theorem cTree {w : World} {vb : Nat} {v : Value} {L : List EntD} {fold : Bool} {space : Int} {rest : List Value} (hk : Vk 64 w vb v fold space rest) (hr : RowAt w v L) (hl : L.length ≤ 1000) :
    Calls Tryz.prog 17 #[.pointer (some ⟨vb, 0, none⟩)] w fun e w' => ∃ v', e = .returned v' ∧ w'.ownsRow w.heap.size 54 5 v' L.length (flatE L) ∧ Below w.heap.size w w' := by
  have HC := hidD (vTree hk hr hl)
  have c0 := hk.vol.c0
  clear hk hr
  go_enter Tryz.func17, Tryz.ntmps17
  go_wp2_with (go_at_call 27; refine HC.out.mono ?_; rintro r w1 ⟨v1, rfl, hown1, hb1⟩; obtain ⟨a4, n4, q4, hv4⟩ := own_shape hown1; subst hv4)
  go_ret
  exact ⟨_, rfl, hown1, hb1⟩
theorem Vk.c3 {T : TypeId} {w : World} {vb : Nat} {v : Value} {fold : Bool} {space : Int} {x : Value} {rest : List Value} (h : Vk T w vb v fold space (x :: rest)) : w.cell? ⟨vb, 3, none⟩ = some x := by rw [Lib.cell_of_heap h]; rfl
set_option maxHeartbeats 4000000 in
theorem vJournal {T : TypeId} {w : World} {vb : Nat} {v : Value} {fold : Bool} {space : Int} {j : ByteArray} {rest : List Value} (hk : Vk T w vb v fold space (.string j :: rest)) :
    Calls Tryz.prog 29 #[.pointer (some ⟨vb, 0, none⟩)] w fun e w' => e = .returned (.string j) ∧ w' = w := by
  have c0 := hk.vol.c0
  have c3 := hk.c3
  clear hk
  go_enter Tryz.func29, Tryz.ntmps29
  go_wp2
  go_ret
  exact ⟨rfl, rfl⟩
set_option maxHeartbeats 4000000 in
theorem cJournal {w : World} {vb : Nat} {v : Value} {fold : Bool} {space : Int} {j : ByteArray} {rest : List Value} (hk : Vk 64 w vb v fold space (.string j :: rest)) :
    Calls Tryz.prog 20 #[.pointer (some ⟨vb, 0, none⟩)] w fun e w' => e = .returned (.string j) ∧ w' = w := by
  have HC := hidD (vJournal hk)
  have c0 := hk.vol.c0
  clear hk
  go_enter Tryz.func20, Tryz.ntmps20
  go_wp2_with (go_at_call 29; refine HC.out.mono ?_; rintro r w1 ⟨rfl, rfl⟩)
  go_ret
  exact ⟨rfl, rfl⟩
end Go.Proofs.YtemkpollilhmjaaGreatDoor

/- Work's own small things: the journal's marks. -/
namespace Go.Proofs.YtemkpollilhmjaaGreatDoor
open Go.RowKit
set_option linter.unusedVariables false
set_option linter.unusedSimpArgs false

/-- So many marks. -/
def marksB (m : Nat) : ByteArray := ⟨(List.replicate m 43).toArray⟩
theorem marksB_size (m : Nat) : (marksB m).size = m := by simp [marksB, ByteArray.size]
theorem marksB_cut (m k : Nat) (h : k < m) : ((marksB m).extract k (k + 1)).toList = [43] := by
  rw [ba_toList, Lib.extract_data]
  simp [marksB]
  rw [show min 1 (m - k) = 1 by omega]
  rfl
theorem marksB_more (m : Nat) : marksB m ++ ⟨#[43]⟩ = marksB (m + 1) := by
  apply ByteArray.ext
  apply Array.toList_inj.1
  simp [marksB, List.replicate_succ']

set_option maxHeartbeats 1000000 in
theorem marks_any (m ops : Nat) (w : World) (hm : m ≤ ops) (ho : ops ≤ 2000000) :
    Calls Tryz.prog 54 #[.string (marksB m), .int .i64 ops] w fun e w' => e = .returned (.int .i64 m) ∧ w' = w := by
  have hsz := marksB_size m
  have HC := hidD (marksB_cut m)
  generalize marksB m = s at *
  go_enter Tryz.func54, Tryz.ntmps54
  go_wp2
  go_loopw [8] (fun i wr => ∃ k : Nat, k ≤ m ∧ i = .int .i64 k ∧ wr = w) (fun i _ => m - (intOf i).toNat)
  case atStart => exact ⟨0, Nat.zero_le _, rfl, rfl⟩
  case round =>
    obtain ⟨k, hk, rfl, rfl⟩ := hrel
    by_cases hlt : k < m
    · have h1 : ((k : Int) == (ops : Int)) = false := by simp; omega
      have h2 : (!(s.extract k (k + 1)).toList == [43]) = false := by rw [HC.out k hlt]; rfl
      have h3 : (k : Int) + 1 ≤ (s.size : Int) := by omega
      go_wp2
      exact ⟨⟨k + 1, by omega, by go_num, by first | rfl | trivial⟩, by simp [intOf]; omega⟩
    · go_wp2
      go_ret
      exact ⟨by first | rfl | rw [hsz] | (subst hsz; rfl), rfl⟩

theorem Vk.set3 {T : TypeId} {w : World} {vb : Nat} {v : Value} {fold : Bool} {space : Int} {x : Value} (h : Vk T w vb v fold space [x]) (y : Value) : Vk T (w.setCell ⟨vb, 3, none⟩ y) vb v fold space [y] ∧ w.grownBy (w.setCell ⟨vb, 3, none⟩ y) (some vb) := by
  constructor
  · have := heap_setCell_same w vb 3 _ T y h
    rw [Vk, this]; simp
  · exact ⟨rfl, rfl, rfl, by simp, fun k _ hk => heap_setCell_other w ⟨vb, 3, none⟩ k y (fun e => hk (by simp [e]))⟩

set_option maxHeartbeats 4000000 in
set_option maxRecDepth 100000 in
/-- step, where the mark is still to be put. -/
theorem step_mark {T : TypeId} {w : World} {vb : Nat} {v : Value} {fold : Bool} {space : Int} {m : Nat} (hk : Vk T w vb v fold space [.string (marksB m)]) (n : Nat) (o : OpD) (hn : m ≤ n) (hn2 : n ≤ 2000000) :
    Calls Tryz.prog 42 #[.pointer (some ⟨vb, 0, none⟩), .int .i64 n, .agg #[.int .i64 o.kind, .string o.path, .string o.dest, .int .i64 o.id, .int .i64 o.size, .int .i64 o.mode]] w fun r w' => r = .returned (.int .i64 0) ∧ Vk T w' vb v fold space [.string (marksB (m + 1))] ∧ w.grownBy w' (some vb) := by
  obtain ⟨kind, path, dest, id, size, mode⟩ := o
  dsimp only
  have ST : Hid (Ob w ⟨kind, path, dest, id, size, mode⟩ (w.alloc (.cells #[.int .i64 kind, .string path, .string dest, .int .i64 id, .int .i64 size, .int .i64 mode] 82))) := Ob.start w _
  have hlt := hk.lt
  have HK := hidD (hk.below ST.out.bel hlt)
  have c0 := HK.out.vol.c0
  have c3 := HK.out.c3
  have f3 := HK.out.frozen 3
  have hsz := marksB_size m
  have hmo := marksB_more m
  have HK0 := hidD hk
  clear hk
  generalize marksB m = s at *
  generalize marksB (m + 1) = s1 at *
  go_enter Tryz.func42, Tryz.ntmps42
  go_wp2
  go_ret
  obtain ⟨q1, q2⟩ := HK0.out.set3 (.string s1)
  refine ⟨rfl, q1.below ((Below.refl _ _).alloc (Nat.le_refl _) _) q1.lt, ⟨q2.os, q2.tape, q2.output, by simp only [World.size_alloc]; have := q2.size; omega, fun k hk hne => ((World.grownBy_alloc _ _ none).block k (Nat.lt_of_lt_of_le hk q2.size) (by simp)).trans (q2.block k hk hne)⟩⟩
end Go.Proofs.YtemkpollilhmjaaGreatDoor

/- Work, said plainly: the trees of the way, and what carrying a script out comes to. -/
namespace Go.Proofs.YtemkpollilhmjaaGreatDoor
open Go.RowKit
set_option linter.unusedVariables false
set_option linter.unusedSimpArgs false

/-- The tree behind the first k operations, where space never lacks. -/
def wayT (fold : Bool) (S : List EntD) (l : List OpD) : Nat → List EntD
  | 0 => S
  | k + 1 => match l[k]? with
    | none => wayT fold S l k
    | some o => match doL fold 9223372036854775807 (wayT fold S l k) o with
      | .ok M => M
      | .error _ => wayT fold S l k
theorem wayT_step {fold : Bool} {S : List EntD} {l : List OpD} {k : Nat} (h : k < l.length) {M : List EntD} (hd : doL fold 9223372036854775807 (wayT fold S l k) l[k] = .ok M) : wayT fold S l (k + 1) = M := by
  rw [wayT, List.getElem?_eq_getElem h]
  simp only [hd]

/-- Carrying out what is left. -/
def seqL (fold : Bool) (space : Int) (V : List EntD) : List OpD → Nat → Int × Nat × List EntD
  | [], i => (0, i, V)
  | o :: l, i => match doL fold space V o with
    | .error c => (c, i, V)
    | .ok M => seqL fold space M l (i + 1)
theorem seq_step {fold : Bool} {space : Int} {V : List EntD} {l : List OpD} {k : Nat} (h : k < l.length) : seqL fold space V (l.drop k) k = match doL fold space V l[k] with | .error c => (c, k, V) | .ok M => seqL fold space M (l.drop (k + 1)) (k + 1) := by
  rw [List.drop_eq_getElem_cons h, seqL]
theorem seq_end {fold : Bool} {space : Int} {V : List EntD} {l : List OpD} : seqL fold space V (l.drop l.length) l.length = (0, l.length, V) := by
  rw [List.drop_length, seqL]

theorem mk_two {fold : Bool} {space : Int} {L M : List EntD} {e : EntD} (h : mkL fold 9223372036854775807 L e = .ok M) : mkL fold space L e = .ok M ∨ (mkL fold space L e = .error 11 ∧ M.length = L.length + 1) := by
  unfold mkL at h ⊢
  split at h
  · cases h
  · rename_i h1
    rw [if_neg h1]
    cases hp : placeL fold L e.pl with
    | none => rw [hp] at h; cases h
    | some p =>
      rw [hp] at h
      dsimp only at h ⊢
      split at h
      · cases h
      · rename_i h2
        rw [if_neg h2]
        split at h
        · cases h
        · rename_i h3
          rw [if_neg h3]
          split at h
          · cases h
          · cases h
            split
            · exact .inr ⟨rfl, by rw [(insL_perm _ _).length_eq]; rfl⟩
            · exact .inl rfl
theorem do_two {fold : Bool} {space : Int} {L M : List EntD} {o : OpD} (h : doL fold 9223372036854775807 L o = .ok M) : doL fold space L o = .ok M ∨ (doL fold space L o = .error 11 ∧ M.length = L.length + 1) := by
  unfold doL at h ⊢
  split
  · rename_i hk; rw [if_pos hk] at h; exact mk_two h
  · rename_i hk; rw [if_neg hk] at h
    split
    · rename_i hk2; rw [if_pos hk2] at h; exact mk_two h
    · rename_i hk2; rw [if_neg hk2] at h
      cases hf : L[atI fold L o.pl]? with
      | none => rw [hf] at h; cases h
      | some e =>
        rw [hf] at h
        dsimp only at h ⊢
        split at h
        · rename_i h7; rw [if_pos h7]; exact .inl h
        · rename_i h7; rw [if_neg h7]
          split at h
          · rename_i h6; rw [if_pos h6]; exact .inl h
          · rename_i h6; rw [if_neg h6]
            split at h
            · cases h
            · rename_i h10; rw [if_neg h10]
              split at h
              · rename_i h5; rw [if_pos h5]; exact mk_two h
              · rename_i h5; rw [if_neg h5]; exact .inl h
theorem do_idle {fold : Bool} {space : Int} {L : List EntD} {o : OpD} (h : doL fold 9223372036854775807 L o = .ok L) : doL fold space L o = .ok L := by
  rcases do_two (space := space) h with h | ⟨_, h⟩
  · exact h
  · omega
theorem do_err4 {fold : Bool} {space : Int} {L : List EntD} {o : OpD} {n : Int} (h : doL fold space L o = .error n) : n ≠ 4 := by
  have mk : ∀ e n, mkL fold space L e = .error n → n ≠ 4 := by
    intro e n h
    unfold mkL at h
    split at h
    · cases h; decide
    · split at h
      · cases h; decide
      · split at h
        · cases h; decide
        · split at h
          · cases h; decide
          · split at h
            · cases h; decide
            · cases h
  unfold doL at h
  split at h
  · exact mk _ _ h
  · split at h
    · exact mk _ _ h
    · split at h
      · cases h; decide
      · split at h
        · cases h
        · split at h
          · unfold renL at h
            split at h
            · cases h; decide
            · split at h
              · cases h; decide
              · split at h
                · cases h; decide
                · split at h
                  · cases h; decide
                  · cases h
          · split at h
            · cases h; decide
            · split at h
              · exact mk _ _ h
              · split at h
                · cases h; decide
                · cases h
theorem try_err4 {fold : Bool} {space : Int} : ∀ (l : List OpD) (L : List EntD) (need : Int) (i : Nat) (c : Int) (k : Nat), tryL fold space L need l i = .error (c, k) → c ≠ 4
  | [], L, need, i, c, k, h => by rw [tryL] at h; cases h
  | o :: l, L, need, i, c, k, h => by
    rw [tryL] at h
    split at h
    · rename_i hd
      cases h
      exact do_err4 hd
    · exact try_err4 l _ _ _ c k h

theorem try_err0 {fold : Bool} {space : Int} : ∀ (l : List OpD) (L : List EntD) (need : Int) (i : Nat) (c : Int) (k : Nat), tryL fold space L need l i = .error (c, k) → c ≠ 0
  | [], L, need, i, c, k, h => by rw [tryL] at h; cases h
  | o :: l, L, need, i, c, k, h => by
    rw [tryL] at h
    split at h
    · rename_i hd
      cases h
      exact do_err hd
    · exact try_err0 l _ _ _ c k h

/-- How many operations are done, as the journal and the tree tell it. -/
def DoneAt (V : List EntD) (W : Nat → List EntD) (m : Nat) (d : Int) : Prop :=
  (V = W m ∧ d = m) ∨ (V ≠ W m ∧ 0 < m ∧ V = W (m - 1) ∧ d = (m : Int) - 1) ∨ (V ≠ W m ∧ (0 < m → V ≠ W (m - 1)) ∧ d = -1)

/-- What the document's Work comes to on a tree V: the error, the place and the tree. -/
def workP (fold : Bool) (space : Int) (V S : List EntD) (l : List OpD) (e : Int) (k : Int) (V' : List EntD) : Prop :=
  match tryP fold 9223372036854775807 S l with
  | .error (c, p) => V' = V ∧ if c = 4 then e = 4 ∧ k = 0 else e = 18 ∧ k = p
  | .ok _ => (V ≠ S ∧ V' = V ∧ e = 16 ∧ k = 0) ∨ (V = S ∧ ∃ n : Nat, k = n ∧ seqL fold space V l 0 = (e, n, V'))
end Go.Proofs.YtemkpollilhmjaaGreatDoor

/- A script's course, and the trees of its way one by one. -/
namespace Go.Proofs.YtemkpollilhmjaaGreatDoor
open Go.RowKit
set_option linter.unusedVariables false
set_option linter.unusedSimpArgs false

/-- What course answers, with all its trees. -/
def CrsW (w : World) (fold : Bool) (S : List EntD) (l : List OpD) (x : Except (Int × Int) (List EntD × Int)) (r : Ending) (w' : World) : Prop :=
  match x with
  | .error (c, k) => r = .returned (.tuple #[.slice none 0 0, .int .i64 c, .int .i64 k]) ∧ c ≠ 0 ∧ Below w.heap.size w w'
  | .ok _ => ∃ (g cap : Nat) (vs : List Value), r = .returned (.tuple #[.slice (some ⟨g, 0, none⟩) (l.length + 1) cap, .int .i64 0, .int .i64 0]) ∧ Below w.heap.size w w' ∧ w.heap.size ≤ g ∧ vs.length = l.length + 1 ∧ (∀ (j : Nat) (h : j < vs.length), w'.cell? ⟨g, j, none⟩ = some vs[j]) ∧ (∀ (j : Nat) (h : j < vs.length), RowAt w' vs[j] (wayT fold S l j)) ∧ (∀ j, j ≤ l.length → VolOk fold (wayT fold S l j)) ∧ (∀ (j : Nat) (h : j < l.length), doL fold 9223372036854775807 (wayT fold S l j) l[j] = .ok (wayT fold S l (j + 1)))

theorem way_formG {u : World} {B : Nat} {wv : Value} {vs : List Value} (h : u.ownsRow B 22 1 wv vs.length vs) (hn : 0 < vs.length) : ∃ g cap, wv = .slice (some ⟨g, 0, none⟩) vs.length cap ∧ B ≤ g ∧ ∀ (j : Nat) (h : j < vs.length), u.cell? ⟨g, j, none⟩ = some vs[j] := by
  obtain ⟨g, cap, rfl, hc⟩ := way_form h hn
  exact ⟨g, cap, rfl, (h.lt g rfl).1, hc⟩

/-- The trees so far are those of the way. -/
structure WayI (fold : Bool) (S : List EntD) (l : List OpD) (Ls : List (List EntD)) (k : Nat) (Lk : List EntD) : Prop where
  at_ : ∀ j, j ≤ k → Ls[j]? = some (wayT fold S l j)
  cur : Lk = wayT fold S l k
  ok : ∀ j, j ≤ k → VolOk fold (wayT fold S l j)
  done : ∀ (j : Nat) (h : j < l.length), j < k → doL fold 9223372036854775807 (wayT fold S l j) l[j] = .ok (wayT fold S l (j + 1))
theorem WayI.start {fold : Bool} {S : List EntD} {l : List OpD} (K : VolOk fold S) : WayI fold S l [S] 0 S where
  at_ := fun j hj => by obtain rfl : j = 0 := by omega
                        rfl
  cur := rfl
  ok := fun j hj => by obtain rfl : j = 0 := by omega
                       exact K
  done := fun j h hj => by omega
theorem WayI.next {fold : Bool} {S : List EntD} {l : List OpD} {Ls : List (List EntD)} {k : Nat} {Lk M : List EntD} (I : WayI fold S l Ls k Lk) (hl : Ls.length = k + 1) (hk : k < l.length) (hd : doL fold 9223372036854775807 Lk l[k] = .ok M) (KM : VolOk fold M) : WayI fold S l (Ls ++ [M]) (k + 1) M where
  at_ := fun j hj => by
    have hM := wayT_step hk (by rw [← I.cur]; exact hd)
    by_cases h : j ≤ k
    · rw [List.getElem?_append_left (by omega)]
      exact I.at_ j h
    · obtain rfl : j = k + 1 := by omega
      rw [hM, ← hl]
      simp
  cur := (wayT_step hk (by rw [← I.cur]; exact hd)).symm
  ok := fun j hj => by
    by_cases h : j ≤ k
    · exact I.ok j h
    · obtain rfl : j = k + 1 := by omega
      rw [wayT_step hk (by rw [← I.cur]; exact hd)]
      exact KM
  done := fun j h hj => by
    by_cases h' : j < k
    · exact I.done j h h'
    · obtain rfl : j = k := by omega
      rw [wayT_step hk (by rw [← I.cur]; exact hd), ← I.cur]
      exact hd

set_option maxHeartbeats 8000000 in
set_option maxRecDepth 100000 in
theorem vcourseW {w : World} {sv lv : Value} {L : List EntD} {l : List OpD} (fold : Bool) (hr : RowAt w sv L) (hs : SmallL L) (hg : Gd w) (ho : OpRow w lv l) (hl : l.length ≤ 2000000) (hos : ∀ o ∈ l, o.small) (X : Except (Int × Int) (List EntD × Int)) (hX : tryP fold 9223372036854775807 L l = X) :
    Calls Tryz.prog 30 #[sv, .bool fold, lv] w fun r w' => CrsW w fold L l X r w' := by
  obtain ⟨i0, hi, hz0, hz1, hz2⟩ := info_parts info22
  have HC := hidD (treesCheckF fold hr hs)
  have HW := hidD (fun (u : World) (hu : Below w.heap.size w u) => firstWrongF (hg.below hu) (ho.below hu (Nat.le_refl _)) hl hos)
  have HX := hidD hX
  have HR := hidD hr
  have HO := hidD ho
  have HG := hidD hg
  have HOS := hidD hos
  obtain ⟨sa, sc, rfl⟩ := hr.val
  obtain ⟨la, lc, rfl⟩ := ho.val
  clear hX hr ho hg hos
  cases ht : treeF fold L
  · rw [ht] at HC
    have hX := HX.out
    rw [tryP, if_pos ht] at hX
    subst hX
    clear HX
    unfold CrsW
    go_enter Tryz.func30, Tryz.ntmps30
    go_wp2_with (go_at_call 46; refine HC.out.mono ?_; rintro r w1 ⟨c, k, rfl, hck, hb1⟩; have hcn : (c != 0) = true := (by simp only [bne, hck]; rfl))
    go_ret3
    exact ⟨rfl, by decide, hb1⟩
  · rw [ht] at HC
    have HT := hidD ht
    have hX := HX.out
    rw [tryP, if_neg (by rw [ht]; decide)] at hX
    clear ht
    cases hf : (fwrong l 0).2
    · have hsg := script_good hf
      rw [if_neg (by rw [hf]; decide)] at hX
      rw [hf] at HW
      have HX2 := hidD hX
      have HSG := hidD hsg.2
      have hl4 := hsg.1
      clear hX hsg HX hf
      generalize (fwrong l 0).1 = fa at *
      go_enter Tryz.func30, Tryz.ntmps30
      go_wp2_with (first | (go_at_call 46; refine HC.out.mono ?_; rintro r w1 ⟨c, k, rfl, hck, hb1⟩; have hcn : (c != 0) = false := (by simp only [bne, hck]; rfl)) | (go_at_call 47; refine (HW.out _ hb1).mono ?_; rintro r w2 ⟨rfl, hb2⟩; have u2 := hb1.trans (hb2.mono hb1.size)))
      have s3 := WaySt.start (fold := fold) HR.out u2
      have K0 := tree_vol HT.out
      have hn0 : needL 0 [L] = usedL L := by
        have := (used_le K0).1
        simp only [needL, List.foldl_cons, List.foldl_nil]
        omega
      have I0 := hidD (show VolOk fold L ∧ (∀ N ∈ [L], VolOk fold N) ∧ [L][0]? = some L ∧ tryL fold 9223372036854775807 L (usedL L) l 0 = tryL fold 9223372036854775807 L (needL 0 [L]) (l.drop 0) 0 from ⟨K0, by simpa using K0, rfl, by rw [hn0, List.drop_zero]⟩)
      have J0 := hidD (WayI.start (l := l) K0)
      have S3 := hidD s3
      have hvbs := u2.size
      clear hn0 K0 s3 HC HW hb1 hb2 u2 hcn hck
      generalize hvb : w2.heap.size = vb at *
      go_loopw [14, 40] (fun wv iv wr => ∃ (k : Nat) (vs : List Value) (Ls : List (List EntD)) (v : Value) (Lk : List EntD), k ≤ l.length ∧ iv = .int .i64 k ∧ vs.length = k + 1 ∧ Hid (WaySt w vb fold wr wv vs Ls v Lk) ∧ Hid (VolOk fold Lk ∧ (∀ N ∈ Ls, VolOk fold N) ∧ Ls[k]? = some Lk ∧ tryL fold 9223372036854775807 L (usedL L) l 0 = tryL fold 9223372036854775807 Lk (needL 0 Ls) (l.drop k) k) ∧ Hid (WayI fold L l Ls k Lk)) (fun _ iv _ => l.length - (intOf iv).toNat)
      case atStart => exact ⟨0, _, _, _, _, Nat.zero_le _, rfl, rfl, S3, I0, J0⟩
      case round =>
        clear S3 I0 J0
        obtain ⟨k, vs, Ls, v, Lk, hk, rfl, hvl, S, I, J⟩ := hrel
        by_cases hlk : k < l.length
        · obtain ⟨b2, off2, rfl, _, hlb2, hops⟩ := op_parts HO.out hlk
          have hcw := (hops.below S.out.bel hlb2) k hlk
          have c0 : wr.cell? ⟨b2, off2 + k * 6, none⟩ = some (.int .i64 l[k].kind) := hcw 0 _ rfl
          have c1 := hcw 1 _ rfl
          have c2 := hcw 2 _ rfl
          have c3 := hcw 3 _ rfl
          have c4 := hcw 4 _ rfl
          have c5 := hcw 5 _ rfl
          have hok := HSG.out _ (List.getElem_mem hlk)
          have hsm := HOS.out _ (List.getElem_mem hlk)
          have HTS := hidD (fun need => try_step (fold := fold) (space := 9223372036854775807) (L := Lk) (need := need) hlk)
          have hlL : Ls.length = k + 1 := by have := S.out.len; omega
          have JN := hidD (fun (M : List EntD) (hd : doL fold 9223372036854775807 Lk l[k] = .ok M) (KM : VolOk fold M) => J.out.next hlL hlk hd KM)
          generalize l[k] = o at *
          clear hcw hops
          have S1 := hidD (S.out.below ((Below.refl _ _).alloc (Nat.le_refl _) (.cells #[.int .i64 o.kind, .string o.path, .string o.dest, .int .i64 o.id, .int .i64 o.size, .int .i64 o.mode] 82)))
          have HD := hidD (vDo S1.out.vol (row_of S1.out.bel S1.out.cur) I.out.1 (HG.out.below S1.out.bel) o hok hsm (by decide) (by decide))
          have hsz := S1.out.bel.size
          cases hd : doL fold 9223372036854775807 Lk o with
          | error n =>
            have hn : (n != 0) = true := by simpa using do_err hd
            have hXE : X = .error (n, (k : Int)) := by
              rw [← HX2.out, I.out.2.2.2, HTS.out, hd]
            have HXE := hidD hXE
            have hn0 := do_err hd
            rw [hd] at HD
            unfold DoA at HD
            clear hXE hd HX2
            go_wp2_with (go_at_call 48; refine HD.out.mono ?_; rintro r w5 ⟨rfl, hb5⟩)
            go_ret3
            rw [HXE.out]
            exact ⟨rfl, hn0, (S1.out.below hb5).bel⟩
          | ok M =>
            have KM := do_ok I.out.1 (okOp_good hok) hd
            have I2 := hidD (show VolOk fold M ∧ (∀ N ∈ Ls ++ [M], VolOk fold N) ∧ (Ls ++ [M])[k + 1]? = some M ∧ tryL fold 9223372036854775807 L (usedL L) l 0 = tryL fold 9223372036854775807 M (needL 0 (Ls ++ [M])) (l.drop (k + 1)) (k + 1) from ⟨KM, fun N hN => by
                rcases List.mem_append.1 hN with h | h
                · exact I.out.2.1 N h
                · rw [List.mem_singleton.1 h]; exact KM, by rw [← hvl, S.out.len]; simp, by rw [I.out.2.2.2, HTS.out, hd, needL_snoc]⟩)
            have J2 := hidD (JN.out M hd KM)
            rw [hd] at HD
            unfold DoA at HD
            clear hd KM HTS JN J
            go_wp2_with (first | (go_at_call 48; refine HD.out.mono ?_; rintro r w5 ⟨rfl, v5, hk5, ho5, hg5⟩; obtain ⟨a5, n5, q5, hv5⟩ := own_shape ho5; subst hv5; have S5 := S1.out.did hk5 ho5 hg5; have e0 := hk5.vol.c0; have hw5 := S5.bel.size) | (at_builtin; refine wpList_append_own _ rfl (.tmp 51) (.tmp 54) 26 rfl w.heap.size 22 i0 _ 1 24 Tryz.underlying26 hi hz0 hz1 hz2 rfl (by decide) _ _ _ rfl (S5.way.alloc _) ⟨_, 0, none⟩ 1 1 [.slice a5 n5 q5] rfl rfl (cell_new22 w5 _) (by intro x hx; rw [List.mem_singleton.1 hx]; rfl) (by unfold maxLen; omega) (by omega) (by simp only [World.size_alloc]; omega) ?_; intro v6 w6 hown6 hg6 _))
            exact ⟨⟨k + 1, _, _, _, _, by omega, by go_num, by rw [List.length_append, hvl]; rfl, hidD ((S5.below ((Below.refl _ _).alloc (Nat.le_refl _) _)).put hown6 hg6), I2, J2⟩, by simp [intOf]; omega⟩
        · obtain ⟨g, cap, hwv, hgg, hcells⟩ := way_formG S.out.way (by omega)
          subst hwv
          obtain rfl : k = l.length := by omega
          have hXE : X = .ok (Lk, needL 0 Ls) := by
            rw [← HX2.out, I.out.2.2.2, List.drop_length, tryL]
          have HXE := hidD hXE
          have HCE := hidD hcells
          clear hXE HX2 hcells
          go_wp2
          go_ret3
          rw [HXE.out]
          have hL := S.out.len
          refine ⟨g, cap, vs, by rw [hvl]; rfl, S.out.bel, hgg, hvl, HCE.out, fun j h1 => ?_, J.out.ok, fun j h => J.out.done j h h⟩
          have h2 : j < Ls.length := by omega
          have hj := row_of S.out.bel (S.out.rows j h1 h2)
          have e : Ls[j] = wayT fold L l j := by
            have := J.out.at_ j (by omega)
            rw [List.getElem?_eq_getElem h2] at this
            exact Option.some.inj this
          rwa [e] at hj
    · rw [if_pos hf] at hX
      rw [hf] at HW
      clear HX hf
      generalize (fwrong l 0).1 = fa at *
      subst hX
      unfold CrsW
      go_enter Tryz.func30, Tryz.ntmps30
      go_wp2_with (first | (go_at_call 46; refine HC.out.mono ?_; rintro r w1 ⟨c, k, rfl, hck, hb1⟩; have hcn : (c != 0) = false := (by simp only [bne, hck]; rfl)) | (go_at_call 47; refine (HW.out _ hb1).mono ?_; rintro r w2 ⟨rfl, hb2⟩; have u2 := hb1.trans (hb2.mono hb1.size)))
      go_ret3
      exact ⟨rfl, by decide, u2⟩
end Go.Proofs.YtemkpollilhmjaaGreatDoor

