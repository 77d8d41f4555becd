/- KW, KX, KY, KZ, QA, QB, QC, QD, QE, QF, PA, RA: in one text. -/
import Derived.Test.YtemkpollilhmjaaGreatDoorU11
import Derived.Test.YtemkpollilhmjaaGreatDoorU17
import Derived.Test.YtemkpollilhmjaaGreatDoorU16
/- The law's own life: a swap is planned, mounted, worked; a content that lies nowhere is refused. -/
namespace Go.Proofs.YtemkpollilhmjaaGreatDoor
open Go.RowKit
set_option linter.unusedVariables false
set_option linter.unusedSimpArgs false

def swapD : List OpD := [⟨6, ⟨#[97]⟩, ⟨#[126, 48]⟩, 0, 0, 0⟩, ⟨6, ⟨#[98]⟩, ⟨#[97]⟩, 0, 0, 0⟩, ⟨6, ⟨#[126, 48]⟩, ⟨#[98]⟩, 0, 0, 0⟩]
theorem mnt_s : mountN false 100 sD = 0 := by kernel_rfl
theorem seq_s : seqL false 100 sD swapD 0 = (0, 3, tD) := by kernel_rfl
theorem try_s : (match tryP false 9223372036854775807 sD swapD with | .ok _ => true | .error _ => false) = true := by kernel_rfl
theorem held_s : heldF false sD = true := by kernel_rfl
theorem work_s {e k : Int} {V' : List EntD} {m' : Nat} (h : WorkS false 100 sD sD swapD 0 e k V' m') : e = 0 ∧ k = 3 ∧ V' = tD := by
  unfold WorkS at h
  have ht := try_s
  cases hx : tryP false 9223372036854775807 sD swapD with
  | error x => rw [hx] at ht; cases ht
  | ok x =>
    rw [hx] at h
    obtain ⟨d, hd, _, hn⟩ := h
    have hd0 : d = (0 : Nat) := by
      rcases hd with ⟨_, rfl⟩ | ⟨_, h0, _⟩ | ⟨hne, _⟩
      · rfl
      · exact absurd h0 (by decide)
      · exact absurd rfl hne
    obtain ⟨n, hk, hs, _⟩ := hn 0 hd0
    rw [List.drop_zero, seq_s] at hs
    simp only [Prod.mk.injEq] at hs
    obtain ⟨h1, h2, h3⟩ := hs
    exact ⟨h1.symm, by rw [hk, ← h2]; rfl, h3.symm⟩
theorem swapD_small : ∀ o ∈ swapD, o.small := by
  intro o ho
  simp only [swapD, List.mem_cons, List.not_mem_nil, or_false] at ho
  rcases ho with rfl | rfl | rfl <;> (unfold OpD.small; decide)
theorem ops_of {u : World} {b : Nat} (h : Blk u b 82 swapC) : OpsAt u b 0 swapD := by
  intro k hk j v hv
  have hk3 : k < 3 := hk
  match k, hk3 with
  | 0, _ =>
    refine h.cell (0 + 0 * 6 + j) ?_
    match j with
    | 0 => exact hv
    | 1 => exact hv
    | 2 => exact hv
    | 3 => exact hv
    | 4 => exact hv
    | 5 => exact hv
    | n + 6 => cases hv
  | 1, _ =>
    refine h.cell (0 + 1 * 6 + j) ?_
    match j with
    | 0 => exact hv
    | 1 => exact hv
    | 2 => exact hv
    | 3 => exact hv
    | 4 => exact hv
    | 5 => exact hv
    | n + 6 => cases hv
  | 2, _ =>
    refine h.cell (0 + 2 * 6 + j) ?_
    match j with
    | 0 => exact hv
    | 1 => exact hv
    | 2 => exact hv
    | 3 => exact hv
    | 4 => exact hv
    | 5 => exact hv
    | n + 6 => cases hv
theorem row_s {u : World} {b : Nat} (h : Blk u b 54 sC) : RowAt u (.slice (some ⟨b, 0, none⟩) 2 2) sD := RowAt.row b 0 2 sD h.lt (by decide) (by unfold maxLen; omega) (ents_of h)
theorem row_t {u : World} {b : Nat} (h : Blk u b 54 tC) : RowAt u (.slice (some ⟨b, 0, none⟩) 2 2) tD := RowAt.row b 0 2 tD h.lt (by decide) (by unfold maxLen; omega) (ents_of h)

set_option maxHeartbeats 8000000 in
set_option maxRecDepth 100000 in
theorem alive_any (w : World) (hg : Gd w) : Calls Tryz.prog 7 #[] w fun e w' => e = .returned (.bool true) ∧ Below w.heap.size w w' := by
  have HG := hidD hg
  have hbig := hg.big
  clear hg
  go_enter Tryz.func7, Tryz.ntmps7
  go_wp2_with fail
  refine (file_any _ _ _).mono ?_
  rintro e w1 ⟨rfl, hb1⟩
  have B1 := hidD hb1
  clear hb1
  go_wp2_with fail
  refine (file_any _ _ _).mono ?_
  rintro e w2 ⟨rfl, hb2⟩
  have B2 := hidD (B1.out.trans (hb2.mono B1.out.size))
  clear hb2 B1
  have BS := hidD (Blk.new w2 54 sC)
  have B3 := hidD (B2.out.trans ((box_below w2 sC.toArray 54).mono B2.out.size))
  go_wp2_with fail
  refine (file_any _ _ _).mono ?_
  rintro e w4 ⟨rfl, hb4⟩
  have BS4 := hidD (BS.out.below hb4)
  have B4 := hidD (B3.out.trans (hb4.mono B3.out.size))
  clear hb4 B2 B3 BS
  go_wp2_with fail
  refine (file_any _ _ _).mono ?_
  rintro e w5 ⟨rfl, hb5⟩
  have BS5 := hidD (BS4.out.below hb5)
  have B5 := hidD (B4.out.trans (hb5.mono B4.out.size))
  clear hb5 B4 BS4
  have BT := hidD (Blk.new w5 54 tC)
  have BS6 := hidD (BS5.out.below (box_below w5 tC.toArray 54))
  have B6 := hidD (B5.out.trans ((box_below w5 tC.toArray 54).mono B5.out.size))
  go_wp2_with fail
  refine (plan_swap BS6.out BT.out).mono ?_
  rintro e w7 ⟨ov, rfl, hov, hb7⟩
  obtain ⟨ga, ca, hga⟩ := row_form hov (by decide)
  subst hga
  have BS7 := hidD (BS6.out.below hb7)
  have BT7 := hidD (BT.out.below hb7)
  have BO7 := hidD (blk_of_row hov)
  have B7 := hidD (B6.out.trans (hb7.mono B6.out.size))
  clear hb7 hov B5 B6 BS5 BS6 BT
  go_wp2_with fail
  refine (cMount false (row_s BS7.out) ⟨by decide, sD_small⟩ 100 ⟨#[]⟩ (by decide)).mono ?_
  intro e w8 hm
  rw [CMnt, if_pos mnt_s] at hm
  obtain ⟨vb, v', rfl, hvb, vk, vr, hb8⟩ := hm
  have BS8 := hidD (BS7.out.below hb8)
  have BT8 := hidD (BT7.out.below hb8)
  have BO8 := hidD (BO7.out.below hb8)
  have B8 := hidD (B7.out.trans (hb8.mono B7.out.size))
  have VK := hidD vk
  have VR := hidD vr
  have hvb2 : 2 ≤ vb := by have := B7.out.size; omega
  have hbs := BS7.out.lt
  have hbt := BT7.out.lt
  have HVB := hidD hvb
  have hw7 := B7.out.size
  clear hb8 vk vr hvb B7 BS7 BT7 BO7
  go_wp2_with fail
  refine (cWork (m := 0) (S := sD) (l := swapD) VK.out hvb2 (RowAt.ofOwn VR.out) (held_vol held_s) (by decide) (by decide) (row_s BS8.out) ⟨by decide, sD_small⟩ (HG.out.below B8.out) (OpRow.row ga 0 ca swapD BO8.out.lt (ops_of BO8.out)) (by decide) swapD_small (Nat.zero_le _) 400 (by decide) (by decide)).mono ?_
  intro e w9 hA
  obtain ⟨e1, k1, m1, v1, V1, rfl, st, K1, said⟩ := hA
  obtain ⟨he, hk, hV⟩ := work_s said
  subst he
  subst hk
  subst hV
  have hne1 : some w2.heap.size ≠ some vb := by have := HVB.out; simp; omega
  have hne2 : some w5.heap.size ≠ some vb := by have := HVB.out; simp; omega
  have BS9 := hidD (BS8.out.kept st.gr hne1)
  have BT9 := hidD (BT8.out.kept st.gr hne2)
  have B9 := hidD (B8.out.grown st.gr B8.out.size (fun k e => by have := HVB.out; have := hbs; cases e; have := B8.out.size; omega))
  have VK9 := hidD st.vk
  have VR9 := hidD (st.rowAt (m0 := 0) VK.out (RowAt.ofOwn VR.out))
  clear st K1 said BS8 BT8 BO8 B8 VK VR hne1 hne2
  go_wp2_with fail
  refine (cTree VK9.out VR9.out (by decide)).mono ?_
  rintro e w10 ⟨tv, rfl, htv, hb10⟩
  have BS10 := hidD (BS9.out.below hb10)
  have BT10 := hidD (BT9.out.below hb10)
  have B10 := hidD (B9.out.trans (hb10.mono B9.out.size))
  obtain ⟨ta, tn, tc, hts⟩ := shape_of htv
  subst hts
  have TV := hidD (RowAt.ofOwn htv)
  clear hb10 htv BS9 BT9 B9 VK9 VR9
  go_wp2_with fail
  refine (rEq TV.out (row_t BT10.out) (by decide)).mono ?_
  rintro e w11 ⟨b, rfl, hbb, n, rfl⟩
  have hbt' : b = true := hbb.2 rfl
  subst hbt'
  clear hbb
  have BS11 := hidD (BS10.out.below (below_drewNB w10 n))
  have B11 := hidD (B10.out.trans ((below_drewNB w10 n).mono (Nat.le_refl _)))
  generalize w10.drewN n = w12 at *
  clear BS10 BT10 B10 TV
  go_wp2_with fail
  refine (file_any _ _ _).mono ?_
  rintro e w13 ⟨rfl, hb13⟩
  have BS13 := hidD (BS11.out.below hb13)
  have B13 := hidD (B11.out.trans (hb13.mono B11.out.size))
  clear hb13 BS11 B11
  have BX1 := hidD (box_below w13 cC.toArray 54)
  have BX2 := hidD (box_below (w13.alloc (.cells cC.toArray 54)) #[.int .i64 4] 3)
  have BC := hidD ((Blk.new w13 54 cC).below BX2.out)
  have BI := hidD (Blk.new (w13.alloc (.cells cC.toArray 54)) 3 [.int .i64 4])
  have BS14 := hidD ((BS13.out.below BX1.out).below BX2.out)
  have B14 := hidD ((B13.out.trans (BX1.out.mono B13.out.size)).trans (BX2.out.mono (Nat.le_trans B13.out.size BX1.out.size)))
  go_wp2_with fail
  have hz : (w13.alloc (.cells cC.toArray 54)).heap.size = w13.heap.size + 1 := by simp
  have HP := hidD (plan_store BS14.out BC.out BI.out)
  rw [hz] at HP
  refine HP.out.mono ?_
  rintro e w15 ⟨rfl, hb15⟩
  have B15 := hidD (B14.out.trans (hb15.mono B14.out.size))
  clear hb15 HP BS14 BC BI B14 BX1 BX2 BS13 B13 hz
  go_wp2_with fail
  go_ret
  exact ⟨rfl, B15.out⟩
end Go.Proofs.YtemkpollilhmjaaGreatDoor

/- What the laws of keeping lean on: the face's Try; a number picked; a tree may be mounted. -/
namespace Go.Proofs.YtemkpollilhmjaaGreatDoor
open Go.RowKit
set_option linter.unusedVariables false
set_option linter.unusedSimpArgs false

theorem pickK (c : Int) (n : Nat) (w : World) (hn : 0 < n) (hn2 : n ≤ 2000000) (h0 : -9223372036854775808 ≤ c) (h1 : c ≤ 9223372036854775807) :
    Calls Tryz.prog 10 #[.int .i64 c, .int .i64 n] w fun e w' => ∃ k : Nat, k < n ∧ e = .returned (.int .i64 k) ∧ w' = w := by
  have key : ∀ m : Int, 0 ≤ m → ∃ k : Nat, k < n ∧ m.tmod n = k := fun m hm => by
    obtain ⟨q, rfl⟩ := Int.eq_ofNat_of_zero_le hm
    exact ⟨q % n, Nat.mod_lt _ hn, by rw [Int.tmod_eq_emod_of_nonneg (by omega)]; simp⟩
  have hn0 : ((n : Int) == 0) = false := by simp; omega
  have hn3 : ¬ ((n : Int) = 0) := by omega
  by_cases hc : c < 0
  · obtain ⟨k, hk, hm⟩ := key (-(c + 1)) (by omega)
    go_enter Tryz.func10, Tryz.ntmps10
    go_wp2
    go_ret
    exact ⟨k, hk, rfl, rfl⟩
  · obtain ⟨k, hk, hm⟩ := key c (by omega)
    go_enter Tryz.func10, Tryz.ntmps10
    go_wp2
    go_ret
    exact ⟨k, hk, rfl, rfl⟩

def rM (x : Except (Int × Int) (List EntD × Int)) : List EntD := match x with | .error _ => [] | .ok (M, _) => M
def rN (x : Except (Int × Int) (List EntD × Int)) : Int := match x with | .error _ => 0 | .ok (_, n) => n
def rC (x : Except (Int × Int) (List EntD × Int)) : Int := match x with | .error (c, _) => c | .ok _ => 0
def rK (x : Except (Int × Int) (List EntD × Int)) : Int := match x with | .error (_, k) => k | .ok _ => 0
theorem TryA.one {w : World} {x : Except (Int × Int) (List EntD × Int)} {r : Ending} {w' : World} (h : TryA w x r w') : ∃ v, r = .returned (.tuple #[v, .int .i64 (rN x), .int .i64 (rC x), .int .i64 (rK x)]) ∧ w'.ownsRow w.heap.size 54 5 v (rM x).length (flatE (rM x)) ∧ Below w.heap.size w w' := by
  cases x with
  | error ck =>
    obtain ⟨c, k⟩ := ck
    exact ⟨_, h.1, World.ownsRow_nil _ _ _ _, h.2⟩
  | ok mn =>
    obtain ⟨M, n⟩ := mn
    exact h
set_option maxHeartbeats 1000000 in
theorem faceTry {w : World} {v1 v2 : Value} {fold : Bool} {x : Except (Int × Int) (List EntD × Int)} (h : Calls Tryz.prog 21 #[v1, .bool fold, v2] w fun r w' => TryA w x r w') :
    Calls Tryz.prog 13 #[v1, .bool fold, v2] w fun r w' => ∃ v, r = .returned (.tuple #[v, .int .i64 (rN x), .int .i64 (rC x), .int .i64 (rK x)]) ∧ w'.ownsRow w.heap.size 54 5 v (rM x).length (flatE (rM x)) ∧ Below w.heap.size w w' := by
  have H := hidD (h.mono (fun r w' hr => hr.one))
  clear h
  go_enter Tryz.func13, Tryz.ntmps13
  go_wp2_with fail
  refine H.out.mono ?_
  rintro e w1 ⟨v, rfl, ho, hb⟩
  have HO := hidD ho
  clear ho
  go_wp2
  refine bodyPost_ret (results_tmp4 rfl _ _ _) rfl ?_
  exact ⟨_, rfl, HO.out, hb⟩

theorem tree_held {fold : Bool} {l : List EntD} (h : treeF fold l = true) : heldF fold l = true := by
  have K := tree_vol h
  unfold heldF chkPH
  have hf := K.few
  rw [beq_iff_eq, if_neg (by omega), chkGoH_zero]
  intro k hk
  rw [chkAtH_zero]
  cases fold with
  | false =>
    have h' : (chkP l).1 = 0 := by simpa [treeF, treeB] using h
    unfold chkP at h'
    split at h'
    · cases h'
    · have := (chkGo_zero l l 0).1 h' k hk
      simp only [Nat.zero_add] at this ⊢
      unfold chkAt at this
      split at this
      · cases this
      · rename_i hp
        exact ⟨by unfold holdB; simp only [Bool.not_eq_false] at hp; rw [show l[k].pl = l[k].path.data.toList from rfl, hp]; rfl, this⟩
  | true =>
    have h' : (chkPT l).1 = 0 := by simpa [treeF, treeBT] using h
    unfold chkPT at h'
    split at h'
    · cases h'
    · have := (chkGoT_zero l l 0).1 h' k hk
      simp only [Nat.zero_add] at this ⊢
      unfold chkAtT at this
      split at this
      · cases this
      · rename_i hp
        exact ⟨by unfold holdB; simp only [Bool.not_eq_false] at hp; rw [show l[k].pl = l[k].path.data.toList from rfl, hp]; rfl, this⟩
theorem tree_mount {fold : Bool} {l : List EntD} (h : treeF fold l = true) : mountN fold 100000 l = 0 := by
  have hu := used_le (tree_vol h)
  unfold mountN
  rw [tree_held h, if_neg (by decide), if_neg (by omega)]
theorem try_tree {fold : Bool} {space : Int} {L : List EntD} {l : List OpD} {x : List EntD × Int} (h : tryP fold space L l = .ok x) : treeF fold L = true := by
  unfold tryP at h
  split at h
  · cases h
  · rename_i hh
    simpa using hh
end Go.Proofs.YtemkpollilhmjaaGreatDoor

/- The way of a script that goes: plain. -/
namespace Go.Proofs.YtemkpollilhmjaaGreatDoor
open Go.RowKit
set_option linter.unusedVariables false
set_option linter.unusedSimpArgs false

theorem try_way {fold : Bool} {S M : List EntD} {l : List OpD} {n : Int} : ∀ (r k : Nat) (need : Int) (i : Nat), k + r = l.length → tryL fold 9223372036854775807 (wayT fold S l k) need (l.drop k) i = .ok (M, n) → wayT fold S l l.length = M ∧ ∀ (j : Nat) (h : j < l.length), k ≤ j → doL fold 9223372036854775807 (wayT fold S l j) l[j] = .ok (wayT fold S l (j + 1)) := by
  intro r
  induction r with
  | zero =>
    intro k need i hk h
    have hk' : k = l.length := by omega
    subst hk'
    rw [List.drop_length, tryL] at h
    cases h
    exact ⟨rfl, fun j hj hkj => by omega⟩
  | succ r ih =>
    intro k need i hk h
    have hkl : k < l.length := by omega
    rw [List.drop_eq_getElem_cons hkl, tryL] at h
    cases hd : doL fold 9223372036854775807 (wayT fold S l k) l[k] with
    | error c => rw [hd] at h; cases h
    | ok L' =>
      rw [hd] at h
      have hw := wayT_step hkl hd
      rw [← hw] at h
      obtain ⟨h1, h2⟩ := ih (k + 1) _ _ (by omega) h
      refine ⟨h1, fun j hj hkj => ?_⟩
      by_cases e : j = k
      · subst e; rw [hd, hw]
      · exact h2 j hj (by omega)
theorem tryP_way {fold : Bool} {S M : List EntD} {l : List OpD} {n : Int} (h : tryP fold 9223372036854775807 S l = .ok (M, n)) : wayT fold S l l.length = M ∧ ∀ (j : Nat) (h : j < l.length), doL fold 9223372036854775807 (wayT fold S l j) l[j] = .ok (wayT fold S l (j + 1)) := by
  unfold tryP at h
  split at h
  · cases h
  · split at h
    · cases h
    · split at h
      · cases h
      · rename_i x hx
        cases h
        have := try_way (l := l) (S := S) l.length 0 _ _ (by omega) (by rw [List.drop_zero]; exact hx)
        exact ⟨this.1, fun j hj => this.2 j hj (Nat.zero_le _)⟩
theorem tryP_err0 {fold : Bool} {space : Int} {S : List EntD} {l : List OpD} {c k : Int} (h : tryP fold space S l = .error (c, k)) : c ≠ 0 := by
  unfold tryP at h
  split at h
  · cases h; decide
  · split at h
    · cases h; decide
    · split at h
      · rename_i c' k' he
        cases h
        exact try_err0 _ _ _ _ _ _ he
      · cases h
theorem no11 {fold : Bool} {S M V : List EntD} {l : List OpD} {n : Int} {m d : Nat} (h : tryP fold 9223372036854775807 S l = .ok (M, n)) (hv : WkV fold (wayT fold S l) l V m d) (hd : d < l.length) : doL fold 100000 V l[d] ≠ .error 11 := by
  obtain ⟨_, hV, _⟩ := hv.here
  have hs := (tryP_way h).2 d hd
  rw [← hV] at hs
  have hg := (try_ok h).2 l[d] (List.getElem_mem hd)
  rw [do_space (s2 := 9223372036854775807) hv.vol (okOp_good hg) (by decide) (by decide), hs]
  intro e
  cases e
/-- Work with budget enough brings the whole script about. -/
theorem work_all {fold : Bool} {S M V' : List EntD} {l : List OpD} {n : Int} {m d m' d' : Nat} {e k : Int} (h : tryP fold 9223372036854775807 S l = .ok (M, n)) (hv : WkV fold (wayT fold S l) l V' m' d') (hw : WorkE fold 100000 l V' m d m' d' (100 * ((l.length : Int) + 1)) e k) (hm : d ≤ m) : e = 0 ∧ k = l.length ∧ V' = M := by
  rcases hw with ⟨he, hk, hd⟩ | ⟨_, _, _, hmu⟩ | ⟨_, _, _, hlt, h11⟩
  · refine ⟨he, hk, ?_⟩
    rw [hv.here.2.1, hd]
    exact (tryP_way h).1
  · have h1 := hv.here.2.2
    have h2 : muW l m d ≤ 2 * (l.length : Int) + 2 := by
      unfold muW
      split <;> omega
    omega
  · exact absurd h11 (no11 h hv hlt)
/-- A volume just mounted stands at the beginning. -/
theorem WkV.begin {fold : Bool} {S : List EntD} {l : List OpD} (K : VolOk fold S) : WkV fold (wayT fold S l) l S 0 0 := ⟨K, Nat.zero_le _, .inl ⟨rfl, rfl⟩⟩
end Go.Proofs.YtemkpollilhmjaaGreatDoor

/- Two volumes side by side, each on the way of its script. -/
namespace Go.Proofs.YtemkpollilhmjaaGreatDoor
open Go.RowKit
set_option linter.unusedVariables false
set_option linter.unusedSimpArgs false

/-- A row of numbers. -/
inductive NumRow (w : World) : Value → List Int → Prop
  | nil : NumRow w (.slice none 0 0) []
  | row (b off cap : Nat) (ts : List Int) (hb : b < w.heap.size) (h : ∀ (k : Nat) (hk : k < ts.length), w.cell? ⟨b, off + k, none⟩ = some (.int .i64 ts[k])) : NumRow w (.slice (some ⟨b, off, none⟩) ts.length cap) ts
theorem NumRow.val {w : World} {v : Value} {ts : List Int} (h : NumRow w v ts) : ∃ a c, v = .slice a ts.length c := by
  cases h with
  | nil => exact ⟨_, _, rfl⟩
  | row b off cap ts hb h => exact ⟨_, _, rfl⟩
theorem NumRow.below {w w' : World} {v : Value} {ts : List Int} (h : NumRow w v ts) {B : Nat} (hb : Below B w w') (hB : w.heap.size ≤ B) : NumRow w' v ts := by
  cases h with
  | nil => exact .nil
  | row b off cap ts hlt h => exact .row b off cap ts (by have := hb.size; omega) (fun k hk => cell_kept hb (by omega) (h k hk))

/-- A volume of this space on the way of its script. -/
structure Ap (w3 u : World) (fold : Bool) (A : List EntD) (x : List OpD) (va : Nat) (v : Value) (V : List EntD) (m d : Nat) : Prop where
  ge : w3.heap.size ≤ va
  vk : Vk 64 u va v fold 100000 [.string (marksB m)]
  row : RowAt u v V
  wk : WkV fold (wayT fold A x) x V m d
theorem Ap.below {w3 u u' : World} {fold : Bool} {A : List EntD} {x : List OpD} {va : Nat} {v : Value} {V : List EntD} {m d : Nat} (h : Ap w3 u fold A x va v V m d) (hb : Below u.heap.size u u') : Ap w3 u' fold A x va v V m d :=
  ⟨h.ge, h.vk.below hb h.vk.lt, h.row.below hb (Nat.le_refl _), h.wk⟩
theorem Ap.other {w3 u u' : World} {fold fold2 : Bool} {A : List EntD} {x : List OpD} {va vb : Nat} {v v2 : Value} {V : List EntD} {m d m2 : Nat} {space : Int} (h : Ap w3 u fold A x va v V m d) (k : Vk 64 u vb v2 fold2 space [.string (marksB m2)]) (hne : va ≠ vb) (hg : u.grownBy u' (some vb)) : Ap w3 u' fold A x va v V m d :=
  ⟨h.ge, (hg.block va h.vk.lt (by simpa using hne)).trans h.vk, h.row.grown k (by simp) hg, h.wk⟩
theorem Ap.le {w3 u : World} {fold : Bool} {A : List EntD} {x : List OpD} {va : Nat} {v : Value} {V : List EntD} {m d : Nat} (h : Ap w3 u fold A x va v V m d) : d ≤ m := by
  rcases h.wk.at_ with ⟨h1, _⟩ | ⟨h1, _⟩ <;> omega
/-- A Work on such a volume. -/
theorem Ap.work {w3 u : World} {fold : Bool} {A M : List EntD} {x : List OpD} {n : Int} {va : Nat} {v av xv : Value} {V : List EntD} {m d : Nat} (h : Ap w3 u fold A x va v V m d) (hb : Below w3.heap.size w3 u) (hbig : 4 ≤ w3.heap.size) (hg : Gd w3) (ha : RowAt w3 av A) (sA : SmallL A) (ho : OpRow w3 xv x) (hl : x.length ≤ 2000000) (hos : ∀ o ∈ x, o.small) (hX : tryP fold 9223372036854775807 A x = .ok (M, n)) (b : Int) (hbl : -1000000000 ≤ b) (hb2 : b ≤ 9223372036854775807) :
    Calls Tryz.prog 16 #[.pointer (some ⟨va, 0, none⟩), av, xv, .int .i64 b] u fun r w' => ∃ (e k : Int) (v' : Value) (V' : List EntD) (m' d' : Nat), r = .returned (.tuple #[.int .i64 e, .int .i64 k]) ∧ Ap w3 w' fold A x va v' V' m' d' ∧ u.grownBy w' (some va) ∧ Below w3.heap.size w3 w' ∧ WorkE fold 100000 x V' m d m' d' b e k := by
  have := h.ge
  refine (cWorkG h.vk (by omega) h.row h.wk (by decide) (by decide) (ha.below hb (Nat.le_refl _)) sA (hg.below hb) (ho.below hb (Nat.le_refl _)) hl hos hX b hbl hb2).mono ?_
  rintro r w' ⟨e, k, m', d', v', V', rfl, st, wk, hd, hE⟩
  exact ⟨e, k, v', V', m', d', rfl, ⟨h.ge, st.vk, st.rowAt h.vk h.row, wk⟩, st.gr, hb.grown st.gr hb.size (fun q e => by cases e; exact h.ge), hE⟩
/-- Mount tells a pointer and an error, whatever they are. -/
theorem mount_any {w : World} {v : Value} {L : List EntD} (fold : Bool) (hr : RowAt w v L) (hs : SmallL L) : Calls Tryz.prog 15 #[v, .bool fold, .int .i64 100000, .string ⟨#[]⟩] w fun r w' => ∃ p n, r = .returned (.tuple #[.pointer p, .int .i64 n]) ∧ Below w.heap.size w w' := by
  refine (cMount fold hr hs 100000 ⟨#[]⟩ (by decide)).mono ?_
  intro r w' h
  unfold CMnt at h
  split at h
  · obtain ⟨vb, v', rfl, _, _, _, hb⟩ := h
    exact ⟨_, _, rfl, hb⟩
  · exact ⟨_, _, h.1, h.2⟩
theorem mount_tree {w w3 : World} {v : Value} {L : List EntD} {x : List OpD} {fold : Bool} (ht : treeF fold L = true) (hr : RowAt w v L) (hs : SmallL L) (h3 : w3.heap.size ≤ w.heap.size) : Calls Tryz.prog 15 #[v, .bool fold, .int .i64 100000, .string ⟨#[]⟩] w fun r w' => ∃ va v', r = .returned (.tuple #[.pointer (some ⟨va, 0, none⟩), .int .i64 0]) ∧ w.heap.size ≤ va ∧ Ap w3 w' fold L x va v' L 0 0 ∧ Below w.heap.size w w' := by
  refine (cMount fold hr hs 100000 ⟨#[]⟩ (by decide)).mono ?_
  intro r w' h
  rw [CMnt, if_pos (tree_mount ht)] at h
  obtain ⟨vb, v', rfl, hge, vk, vr, hb⟩ := h
  exact ⟨vb, v', rfl, hge, ⟨Nat.le_trans h3 hge, vk, RowAt.ofOwn vr, WkV.begin (tree_vol ht)⟩, hb⟩
end Go.Proofs.YtemkpollilhmjaaGreatDoor

/- A tree that a volume may hold is one that may be mounted again: plain. -/
namespace Go.Proofs.YtemkpollilhmjaaGreatDoor
open Go.RowKit
set_option linter.unusedVariables false
set_option linter.unusedSimpArgs false

theorem vol_apart {fold : Bool} {l : List EntD} (V : VolOk fold l) {k : Nat} (hk : k < l.length) : ∀ o ∈ l.take k, sameB fold o.pl l[k].pl = false := by
  intro o ho
  obtain ⟨j, hj, rfl⟩ := List.mem_take_iff_getElem.1 ho
  have hjk : j < k := by omega
  have hjl : j < l.length := by omega
  cases hs : sameB fold l[j].pl l[k].pl with
  | false => rfl
  | true =>
    have e := V.one _ (List.getElem_mem hjl) _ (List.getElem_mem hk) hs
    have hlt := V.srt.at j k hjl hk hjk
    rw [e] at hlt
    exact absurd hlt ((List.lt_irrefl _))
theorem vol_held {fold : Bool} {l : List EntD} (V : VolOk fold l) : heldF fold l = true := by
  refine (held_iff fold l).2 ⟨V.few, fun k hk => ⟨?_, ⟨V.fields _ (List.getElem_mem hk), ?_, ?_, ?_, ?_⟩, ?_⟩⟩
  · unfold holdB
    rcases V.names _ (List.getElem_mem hk) with h | ⟨h1, h2⟩
    · rw [h]; rfl
    · rw [h1, h2]; simp
  · intro h0
    obtain ⟨i, rfl⟩ : ∃ i, k = i + 1 := ⟨k - 1, by omega⟩
    rw [prev_at l i hk]
    exact (cmpL_key _ _).1.2 (V.srt.at i (i + 1) (by omega) hk (by omega))
  · unfold upB
    rw [parentB_eq, Bool.or_eq_true, List.any_eq_true]
    by_cases hp : parentL l[k].path.data.toList = []
    · exact .inl (by rw [hp]; rfl)
    · obtain ⟨p, hpm, hd, he⟩ := V.par _ (List.getElem_mem hk) hp
      obtain ⟨i, hi, rfl⟩ := List.mem_iff_getElem.1 hpm
      have hlt : key l[i].pl < key l[k].pl := by rw [he]; exact parentL_lt _ hp
      have hik : i < k := by
        rcases Nat.lt_trichotomy i k with h | h | h
        · exact h
        · subst h; exact absurd hlt ((List.lt_irrefl _))
        · exact absurd (List.lt_trans hlt (V.srt.at k i hk hi h)) ((List.lt_irrefl _))
      exact .inr ⟨l[i], mem_take l k i hi hik, by rw [hd, Bool.true_and, beq_iff_eq]; exact he⟩
  · unfold twiceB
    rw [List.any_eq_false]
    intro o ho he
    have h1 := vol_apart V hk o ho
    have h2 : o.pl = l[k].pl := eq_of_beq he
    rw [h2, sameB_refl] at h1
    cases h1
  · unfold sizeB
    rw [List.any_eq_false]
    intro o ho
    have hom := List.mem_of_mem_take ho
    have hs := V.sizes o hom _ (List.getElem_mem hk)
    intro h
    simp only [Bool.and_eq_true, Bool.not_eq_true', decide_eq_true_eq] at h
    obtain ⟨⟨⟨d1, d2⟩, d3⟩, d4⟩ := h
    exact d4 (hs d2 d1 d3)
  · unfold twiceF
    rw [List.any_eq_false]
    intro o ho h
    rw [show sameB fold o.path.data.toList l[k].path.data.toList = sameB fold o.pl l[k].pl from rfl, vol_apart V hk o ho] at h
    cases h
end Go.Proofs.YtemkpollilhmjaaGreatDoor

/- The laws' own way of working: a volume is mounted anew out of what was left, worked, and left again. -/
namespace Go.Proofs.YtemkpollilhmjaaGreatDoor
open Go.RowKit
set_option linter.unusedVariables false
set_option linter.unusedSimpArgs false

/-- What was left of a volume. -/
structure Lft (w3 u : World) (xb : Nat) (fold : Bool) (space : Int) (S : List EntD) (l : List OpD) (v : Value) (V : List EntD) (m d : Nat) : Prop where
  bel : Below w3.heap.size w3 u
  ge : w3.heap.size ≤ xb
  x : Blk u xb 30 [v, .bool fold, .int .i64 space, .string (marksB m)]
  row : RowAt u v V
  wk : WkV fold (wayT fold S l) l V m d
theorem Lft.below {w3 u u' : World} {xb : Nat} {fold : Bool} {space : Int} {S : List EntD} {l : List OpD} {v : Value} {V : List EntD} {m d : Nat} (h : Lft w3 u xb fold space S l v V m d) (hb : Below u.heap.size u u') : Lft w3 u' xb fold space S l v V m d :=
  ⟨h.bel.trans (hb.mono h.bel.size), h.ge, h.x.below hb, h.row.below hb (Nat.le_refl _), h.wk⟩

set_option maxHeartbeats 8000000 in
set_option maxRecDepth 100000 in
theorem works9 {w3 u : World} {xb : Nat} {fold : Bool} {space : Int} {S M : List EntD} {l : List OpD} {n : Int} {v sv lv : Value} {V : List EntD} {m d : Nat} (h : Lft w3 u xb fold space S l v V m d) (hbig : 4 ≤ w3.heap.size) (hg : Gd w3) (hs : RowAt w3 sv S) (sS : SmallL S) (ho : OpRow w3 lv l) (hl : l.length ≤ 2000000) (hos : ∀ o ∈ l, o.small) (hX : tryP fold 9223372036854775807 S l = .ok (M, n)) (h0 : usedL V ≤ space) (h1 : space ≤ 100000) (hm : m ≤ 400) (b : Int) (hbl : -1000000000 ≤ b) (hb2 : b ≤ 9223372036854775807) :
    Calls Tryz.prog 9 #[.pointer (some ⟨xb, 0, none⟩), sv, lv, .int .i64 b] u fun r w' => ∃ (e k : Int) (v' : Value) (V' : List EntD) (m' d' : Nat), r = .returned (.tuple #[.int .i64 e, .int .i64 k, .bool true]) ∧ Lft w3 w' xb fold space S l v' V' m' d' ∧ d ≤ d' ∧ WorkE fold space l V' m d m' d' b e k := by
  obtain ⟨i0, hi, hz0, hz1, hz2⟩ := info_parts info54
  have H := hidD h
  have HG := hidD hg
  have HS := hidD hs
  have HSS := hidD sS
  have HO := hidD ho
  have HOS := hidD hos
  have HX := hidD hX
  obtain ⟨sa, sc, rfl⟩ := hs.val
  obtain ⟨la, lc, rfl⟩ := ho.val
  have x0 := h.x.cell 0 rfl
  have few := h.wk.vol.few
  have hgex := h.ge
  have hmn' : mountN fold space V = 0 := by
    unfold mountN
    rw [vol_held h.wk.vol, if_neg (by decide), if_neg (by omega)]
  have hmn := hidD hmn'
  have hu0 := (used_le h.wk.vol).1
  have hr := h.row
  clear hg hs sS ho hos hX h hmn'
  cases hr with
  | nil =>
    have HN := hidD (fun ty => run_append_none (P := Tryz.prog) u 0 22 ty 54 i0 5 Tryz.underlying22 hi hz1 _ _ _ (World.ownsRow_nil u 0 54 5))
    go_enter Tryz.func9, Tryz.ntmps9
    go_wp2_with (at_builtin; refine Lib.wpList_append_run _ rfl _ _ _ _ rfl _ _ rfl rfl _ _ (HN.out _) ?_)
    have H1 := hidD H.out
    have T1 : Hid (RowAt u (.slice none 0 0) []) := RowAt.nil
    clear HN
    have y1 := H1.out.x.cell 1 rfl
    have y2 := H1.out.x.cell 2 rfl
    have y3 := H1.out.x.cell 3 rfl
    have hxl := H1.out.x.lt
    go_region_held3 (fun v => v.cell? ⟨xb, 1, none⟩ = some (.bool fold) ∧ v.cell? ⟨xb, 2, none⟩ = some (.int .i64 space) ∧ v.cell? ⟨xb, 3, none⟩ = some (.string (marksB m))) (go_keep) (first | (go_at_call 15; refine (cMount fold (T1.out.below (below_drewB _) (Nat.le_refl _)) ⟨by omega, H1.out.wk.vol.small⟩ space (marksB m) (by rw [marksB_size]; omega)).mono ?_; intro e w5 hmt; rw [CMnt, if_pos hmn.out] at hmt; obtain ⟨vb, v5, rfl, hvb, vk, vr, hb5⟩ := hmt; have H5 := hidD (H1.out.below ((below_drewB _).trans hb5)); have r1 := H5.out.x.cell 1 rfl; have r2 := H5.out.x.cell 2 rfl; have r3 := H5.out.x.cell 3 rfl; have VK := hidD vk; have VR := hidD (RowAt.ofOwn vr); have hne : xb ≠ vb := (fun e => by subst e; exact absurd hxl (Nat.not_lt.2 hvb)); have hge5 : w3.heap.size ≤ vb := Nat.le_trans H1.out.bel.size hvb; clear vk vr hb5 hvb))
    clear r1 r2 r3 y1 y2 y3
    go_wp2_with fail
    refine (cWorkG VK.out (by omega) VR.out H5.out.wk (by omega) (by omega) (HS.out.below H5.out.bel (Nat.le_refl _)) HSS.out (HG.out.below H5.out.bel) (HO.out.below H5.out.bel (Nat.le_refl _)) hl HOS.out HX.out b hbl hb2).mono ?_
    rintro r w6 ⟨e, k, m', d', v6, V6, rfl, st, wk, hd, hE⟩
    have X6 := hidD (H5.out.x.kept st.gr (by simpa using hne))
    have B6 := hidD (H5.out.bel.grown st.gr H5.out.bel.size (fun q e => by cases e; exact hge5))
    have VK6 := hidD st.vk
    have VR6 := hidD (st.rowAt VK.out VR.out)
    have WK := hidD wk
    have WE := hidD hE
    have few6 := wk.vol.few
    clear st wk hE H5 VK VR H1 T1
    go_wp2_with fail
    refine (cTree VK6.out VR6.out (by omega)).mono ?_
    rintro r w7 ⟨tv, rfl, htv, hb7⟩
    obtain ⟨t1, t2, t3, hts⟩ := shape_of htv
    subst hts
    have X7 := hidD (X6.out.below hb7)
    have B7 := hidD (B6.out.trans (hb7.mono B6.out.size))
    have VK7 := hidD (VK6.out.below hb7 VK6.out.lt)
    have TV := hidD htv
    have z0 := X7.out.cell 0 rfl
    have f0 := X7.out.frozen 0
    clear hb7 htv X6 B6 VK6 VR6
    go_wp2_with fail
    have X8 := hidD (X7.out.set 0 (.slice t1 t2 t3) (by simp))
    have VK8 : Hid (Vk 64 (w7.setCell ⟨xb, 0, none⟩ (.slice t1 t2 t3)) vb v6 fold space [.string (marksB m')]) := ((gb_set w7 xb 0 (.slice t1 t2 t3)).block vb VK7.out.lt (by simpa using fun e : vb = xb => hne e.symm)).trans VK7.out
    have z3 := X8.out.cell 3 rfl
    have f3 := X8.out.frozen 3
    refine (cJournal VK8.out).mono ?_
    rintro r wz ⟨rfl, hwz⟩; rw [hwz]; clear hwz
    go_wp2_with fail
    go_ret3
    have T8 := row_blk X7.out TV.out (by decide) (gb_set w7 xb 0 (.slice t1 t2 t3))
    have T9 := row_blk X8.out T8 (by decide) (gb_set _ xb 3 (.string (marksB m')))
    have hx := B7.out.size
    exact ⟨e, k, _, V6, m', d', rfl, ⟨below_set (below_set B7.out _ _ _ hx hgex) _ _ _ (by simpa using hx) hgex, hgex, X8.out.set 3 (.string (marksB m')) (by simp), RowAt.ofOwn T9, WK.out⟩, hd, WE.out⟩
  | row bb off cap V hlb hcc hmm hE =>
    have HE := hidD (flatE_at hE)
    go_enter Tryz.func9, Tryz.ntmps9
    have hzl := hE
    clear hE hzl
    go_wp2_with (at_builtin; refine wpList_append_own _ rfl _ _ 22 rfl u.heap.size 54 i0 _ 5 48 Tryz.underlying22 hi hz0 hz1 hz2 rfl (by decide) _ _ _ rfl (World.ownsRow_nil _ _ _ _) ⟨bb, off, none⟩ V.length cap (flatE V) rfl (flatE_length V) HE.out (flatE_one V) (by unfold maxLen; omega) (by omega) (Nat.le_refl _) ?_; intro v2 w2 hown2 hg2 _)
    obtain ⟨q1, q2, q3, hq⟩ := shape_of hown2
    subst hq
    have hbU := below_of_none hg2
    have H1 := hidD (H.out.below hbU)
    have T1 := hidD (RowAt.ofOwn (by simpa using hown2))
    clear hown2 hg2 hbU HE H
    have y1 := H1.out.x.cell 1 rfl
    have y2 := H1.out.x.cell 2 rfl
    have y3 := H1.out.x.cell 3 rfl
    have hxl := H1.out.x.lt
    go_region_held3 (fun v => v.cell? ⟨xb, 1, none⟩ = some (.bool fold) ∧ v.cell? ⟨xb, 2, none⟩ = some (.int .i64 space) ∧ v.cell? ⟨xb, 3, none⟩ = some (.string (marksB m))) (go_keep) (first | (go_at_call 15; refine (cMount fold (T1.out.below (below_drewB _) (Nat.le_refl _)) ⟨by omega, H1.out.wk.vol.small⟩ space (marksB m) (by rw [marksB_size]; omega)).mono ?_; intro e w5 hmt; rw [CMnt, if_pos hmn.out] at hmt; obtain ⟨vb, v5, rfl, hvb, vk, vr, hb5⟩ := hmt; have H5 := hidD (H1.out.below ((below_drewB _).trans hb5)); have r1 := H5.out.x.cell 1 rfl; have r2 := H5.out.x.cell 2 rfl; have r3 := H5.out.x.cell 3 rfl; have VK := hidD vk; have VR := hidD (RowAt.ofOwn vr); have hne : xb ≠ vb := (fun e => by subst e; exact absurd hxl (Nat.not_lt.2 hvb)); have hge5 : w3.heap.size ≤ vb := Nat.le_trans H1.out.bel.size hvb; clear vk vr hb5 hvb))
    clear r1 r2 r3 y1 y2 y3
    go_wp2_with fail
    refine (cWorkG VK.out (by omega) VR.out H5.out.wk (by omega) (by omega) (HS.out.below H5.out.bel (Nat.le_refl _)) HSS.out (HG.out.below H5.out.bel) (HO.out.below H5.out.bel (Nat.le_refl _)) hl HOS.out HX.out b hbl hb2).mono ?_
    rintro r w6 ⟨e, k, m', d', v6, V6, rfl, st, wk, hd, hE⟩
    have X6 := hidD (H5.out.x.kept st.gr (by simpa using hne))
    have B6 := hidD (H5.out.bel.grown st.gr H5.out.bel.size (fun q e => by cases e; exact hge5))
    have VK6 := hidD st.vk
    have VR6 := hidD (st.rowAt VK.out VR.out)
    have WK := hidD wk
    have WE := hidD hE
    have few6 := wk.vol.few
    clear st wk hE H5 VK VR H1 T1
    go_wp2_with fail
    refine (cTree VK6.out VR6.out (by omega)).mono ?_
    rintro r w7 ⟨tv, rfl, htv, hb7⟩
    obtain ⟨t1, t2, t3, hts⟩ := shape_of htv
    subst hts
    have X7 := hidD (X6.out.below hb7)
    have B7 := hidD (B6.out.trans (hb7.mono B6.out.size))
    have VK7 := hidD (VK6.out.below hb7 VK6.out.lt)
    have TV := hidD htv
    have z0 := X7.out.cell 0 rfl
    have f0 := X7.out.frozen 0
    clear hb7 htv X6 B6 VK6 VR6
    go_wp2_with fail
    have X8 := hidD (X7.out.set 0 (.slice t1 t2 t3) (by simp))
    have VK8 : Hid (Vk 64 (w7.setCell ⟨xb, 0, none⟩ (.slice t1 t2 t3)) vb v6 fold space [.string (marksB m')]) := ((gb_set w7 xb 0 (.slice t1 t2 t3)).block vb VK7.out.lt (by simpa using fun e : vb = xb => hne e.symm)).trans VK7.out
    have z3 := X8.out.cell 3 rfl
    have f3 := X8.out.frozen 3
    refine (cJournal VK8.out).mono ?_
    rintro r wz ⟨rfl, hwz⟩; rw [hwz]; clear hwz
    go_wp2_with fail
    go_ret3
    have T8 := row_blk X7.out TV.out (by decide) (gb_set w7 xb 0 (.slice t1 t2 t3))
    have T9 := row_blk X8.out T8 (by decide) (gb_set _ xb 3 (.string (marksB m')))
    have hx := B7.out.size
    exact ⟨e, k, _, V6, m', d', rfl, ⟨below_set (below_set B7.out _ _ _ hx hgex) _ _ _ (by simpa using hx) hgex, hgex, X8.out.set 3 (.string (marksB m')) (by simp), RowAt.ofOwn T9, WK.out⟩, hd, WE.out⟩
end Go.Proofs.YtemkpollilhmjaaGreatDoor

/- Is a tree one of those of the way? -/
namespace Go.Proofs.YtemkpollilhmjaaGreatDoor
open Go.RowKit
set_option linter.unusedVariables false
set_option linter.unusedSimpArgs false

/-- The trees of a way, in a row. -/
structure Sts (u : World) (g : Nat) (vs : List Value) (Ls : List (List EntD)) : Prop where
  lt : g < u.heap.size
  len : vs.length = Ls.length
  cell : ∀ (k : Nat) (h : k < vs.length), u.cell? ⟨g, k, none⟩ = some vs[k]
  row : ∀ (k : Nat) (h : k < vs.length) (h' : k < Ls.length), RowAt u vs[k] Ls[k]
theorem Sts.below {u u' : World} {g : Nat} {vs : List Value} {Ls : List (List EntD)} (h : Sts u g vs Ls) {B : Nat} (hb : Below B u u') (hB : u.heap.size ≤ B) : Sts u' g vs Ls :=
  ⟨by have := hb.size; have := h.lt; omega, h.len, fun k hk => cell_kept hb (by have := h.lt; omega) (h.cell k hk), fun k hk hk' => (h.row k hk hk').below hb hB⟩

set_option maxHeartbeats 4000000 in
set_option maxRecDepth 100000 in
theorem one11 {u : World} {tv : Value} {V : List EntD} {g cap : Nat} {vs : List Value} {Ls : List (List EntD)} (hr : RowAt u tv V) (hl : V.length ≤ 2000000) (S : Sts u g vs Ls) (hn : vs.length ≤ 2000000) (hin : V ∈ Ls) :
    Calls Tryz.prog 11 #[tv, .slice (some ⟨g, 0, none⟩) vs.length cap] u fun e w' => e = .returned (.bool true) ∧ Below u.heap.size u w' := by
  have HR := hidD hr
  have HS := hidD S
  have HI := hidD hin
  have HL := hidD S.len
  obtain ⟨ta, tc, rfl⟩ := hr.val
  clear hr S hin
  go_enter Tryz.func11, Tryz.ntmps11
  go_wp2
  go_loopw [5] (fun iv wr => ∃ i : Nat, i ≤ vs.length ∧ iv = .int .i64 i ∧ Hid (∀ (j : Nat) (h : j < Ls.length), j < i → V ≠ Ls[j]) ∧ Hid (Below u.heap.size u wr)) (fun iv _ => vs.length - (intOf iv).toNat)
  case atStart => exact ⟨0, Nat.zero_le _, rfl, fun j h hj => absurd hj (Nat.not_lt_zero _), Below.refl _ _⟩
  case round =>
    obtain ⟨i, hi, rfl, HJ, BW⟩ := hrel
    by_cases hlt : i < vs.length
    · have c0 := cell_kept BW.out HS.out.lt (HS.out.cell i hlt)
      have R0 := hidD ((HS.out.row i hlt (HL.out ▸ hlt)).below BW.out (Nat.le_refl _))
      obtain ⟨va, vc, hv⟩ := R0.out.val
      rw [hv] at c0 R0
      have HE := hidD (rEq (HR.out.below BW.out (Nat.le_refl _)) R0.out hl)
      clear hv
      have hiL : i < Ls.length := HL.out ▸ hlt
      generalize (Ls[i]'hiL).length = q at *
      go_wp2_with fail
      refine HE.out.mono ?_
      rintro e w1 ⟨b, rfl, hb, n, rfl⟩
      have B1 := hidD (BW.out.trans ((below_drewNB wr n).mono (Nat.le_refl _)))
      generalize wr.drewN n = w2 at *
      cases b with
      | true =>
        clear hb
        go_wp2_with fail
        go_ret
        exact ⟨rfl, B1.out⟩
      | false =>
        have hne : Hid (V ≠ Ls[i]'hiL) := fun e => by have := hb.2 e; cases this
        clear hb
        go_wp2_with fail
        refine ⟨⟨i + 1, by omega, by go_num, fun j h hj => ?_, B1⟩, by simp [intOf]; omega⟩
        by_cases e : j = i
        · subst e; exact hne.out
        · exact HJ.out j h (by omega)
    · obtain ⟨j, hj, hV⟩ := List.mem_iff_getElem.1 HI.out
      exact absurd hV.symm (HJ.out j hj (by have := HL.out; omega))
end Go.Proofs.YtemkpollilhmjaaGreatDoor

/- The parts of a script that goes go too: plain. -/
namespace Go.Proofs.YtemkpollilhmjaaGreatDoor
open Go.RowKit
set_option linter.unusedVariables false
set_option linter.unusedSimpArgs false

theorem tryL_snoc {fold : Bool} {s : Int} {o : OpD} {L' L2 : List EntD} {n' : Int} (hd : doL fold s L' o = .ok L2) : ∀ (t : List OpD) (L : List EntD) (need : Int) (k : Nat), tryL fold s L need t k = .ok (L', n') → tryL fold s L need (t ++ [o]) k = .ok (L2, max n' (usedL L2)) := by
  intro t
  induction t with
  | nil =>
    intro L need k h
    rw [tryL] at h
    cases h
    rw [List.nil_append, tryL, hd]
    simp only [tryL]
  | cons a t ih =>
    intro L need k h
    rw [tryL] at h
    rw [List.cons_append, tryL]
    cases ha : doL fold s L a with
    | error c => rw [ha] at h; cases h
    | ok L1 =>
      rw [ha] at h
      exact ih _ _ _ h
theorem tryP_take {fold : Bool} {S M : List EntD} {l : List OpD} {n : Int} (h : tryP fold 9223372036854775807 S l = .ok (M, n)) : ∀ i, i ≤ l.length → ∃ ni, tryP fold 9223372036854775807 S (l.take i) = .ok (wayT fold S l i, ni) := by
  have hw := (tryP_way h).2
  have ht := try_tree h
  obtain ⟨h4, hok⟩ := try_ok h
  have hf : ∀ i, (fwrong (l.take i) 0).2 = false := by
    intro i
    rw [fwrong_scriptB]
    simp only [scriptB, Bool.not_eq_false', Bool.and_eq_true, decide_eq_true_eq, List.all_eq_true]
    exact ⟨by rw [List.length_take]; omega, fun o ho => hok o (List.mem_of_mem_take ho)⟩
  have key : ∀ i, i ≤ l.length → ∃ ni, tryL fold 9223372036854775807 S (usedL S) (l.take i) 0 = .ok (wayT fold S l i, ni) := by
    intro i
    induction i with
    | zero => intro _; exact ⟨_, by rw [List.take_zero, tryL]; rfl⟩
    | succ i ih =>
      intro hi
      obtain ⟨ni, hni⟩ := ih (by omega)
      rw [List.take_succ_eq_append_getElem (by omega)]
      exact ⟨_, tryL_snoc (hw i (by omega)) _ _ _ _ hni⟩
  intro i hi
  obtain ⟨ni, hni⟩ := key i hi
  refine ⟨ni, ?_⟩
  unfold tryP
  rw [if_neg (by rw [ht]; decide), if_neg (by rw [hf i]; decide), hni]
theorem OpRow.takeK {w : World} {a : Option Addr} {n c : Nat} {l : List OpD} (h : OpRow w (.slice a n c) l) (i : Nat) (hi : i ≤ l.length) : OpRow w (.slice a i c) (l.take i) := by
  generalize hv : Value.slice a n c = v at h
  cases h with
  | nil =>
    cases hv
    obtain rfl : i = 0 := by simpa using hi
    exact .nil
  | row b off cap l hb h =>
    cases hv
    have := OpRow.row (w := w) b off c (l.take i) hb (fun k hk j v hv => h k (by simp at hk; omega) j v (by simpa using hv))
    rwa [List.length_take, Nat.min_eq_left hi] at this
end Go.Proofs.YtemkpollilhmjaaGreatDoor

/- The trees of a way, as the law gathers them. -/
namespace Go.Proofs.YtemkpollilhmjaaGreatDoor
open Go.RowKit
set_option linter.unusedVariables false
set_option linter.unusedSimpArgs false

/-- The first trees of a way, each in its own row, in a row of the law's own. -/
structure StsI (w u : World) (av : Value) (fold : Bool) (S : List EntD) (l : List OpD) (i : Nat) : Prop where
  bel : Below w.heap.size w u
  own : ∃ vs : List Value, vs.length = i ∧ u.ownsRow w.heap.size 22 1 av i vs ∧ (∀ x ∈ vs, x.oneCell' = true) ∧ ∀ (k : Nat) (h : k < vs.length), ∃ B, w.heap.size ≤ B ∧ u.ownsRow B 54 5 vs[k] (wayT fold S l k).length (flatE (wayT fold S l k))
theorem StsI.below {w u u' : World} {av : Value} {fold : Bool} {S : List EntD} {l : List OpD} {i : Nat} (h : StsI w u av fold S l i) (hb : Below u.heap.size u u') : StsI w u' av fold S l i := by
  obtain ⟨vs, h1, h2, h3, h4⟩ := h.own
  exact ⟨h.bel.trans (hb.mono h.bel.size), vs, h1, own_belowK hb h2, h3, fun k hk => by obtain ⟨B, hB, ho⟩ := h4 k hk; exact ⟨B, hB, own_belowK hb ho⟩⟩

set_option maxHeartbeats 8000000 in
set_option maxRecDepth 100000 in
theorem states_ok {w : World} {sv : Value} {la : Option Addr} {lc : Nat} {S M : List EntD} {l : List OpD} {n : Int} (fold : Bool) (hs : RowAt w sv S) (sS : SmallL S) (hg : Gd w) (ho : OpRow w (.slice la l.length lc) l) (hcap : l.length ≤ lc) (hl : l.length ≤ 2000000) (hos : ∀ o ∈ l, o.small) (hX : tryP fold 9223372036854775807 S l = .ok (M, n)) :
    Calls Tryz.prog 8 #[sv, .bool fold, .slice la l.length lc] w fun e w' => ∃ av, e = .returned av ∧ StsI w w' av fold S l (l.length + 1) := by
  obtain ⟨i0, hi, hz0, hz1, hz2⟩ := info_parts info22
  have HS := hidD hs
  have HSS := hidD sS
  have HG := hidD hg
  have HO := hidD ho
  have HOS := hidD hos
  have HT := hidD (tryP_take hX)
  have h4 := (try_ok hX).1
  obtain ⟨sa, sc, rfl⟩ := hs.val
  clear hs sS hg ho hos hX
  go_enter Tryz.func8, Tryz.ntmps8
  go_wp2
  go_loopw [7, 8] (fun av iv wr => ∃ i : Nat, i ≤ l.length + 1 ∧ iv = .int .i64 i ∧ Hid (StsI w wr av fold S l i)) (fun _ iv _ => l.length + 1 - (intOf iv).toNat)
  case atStart => exact ⟨0, Nat.zero_le _, rfl, ⟨Below.refl _ _, [], rfl, World.ownsRow_nil _ _ _ _, by simp, fun k hk => by simp at hk⟩⟩
  case round =>
    obtain ⟨i, hi', rfl, I⟩ := hrel
    by_cases hlt : i ≤ l.length
    · obtain ⟨ni, hni⟩ := HT.out i hlt
      have HC := hidD (faceTry (vTry fold (HS.out.below I.out.bel (Nat.le_refl _)) HSS.out (HG.out.below I.out.bel) ((HO.out.below I.out.bel (Nat.le_refl _)).takeK i hlt) (by rw [List.length_take]; omega) (fun o ho => HOS.out o (List.mem_of_mem_take ho)) _ hni))
      clear hni
      have hic : i ≤ lc := by omega
      have J := hidD I.out.own
      obtain ⟨qa, qc, hq⟩ : ∃ a c, u7 = .slice a i c := by
        obtain ⟨vs, h1, h2, _⟩ := I.out.own
        exact row_shape0 h2
      subst hq
      go_wp2_with fail
      refine HC.out.mono ?_
      rintro e w1 ⟨v1, rfl, ho1, hb1⟩
      simp only [rC, rN, rK, rM] at ho1 ⊢
      obtain ⟨p1, p2, p3, hp⟩ := shape_of ho1
      subst hp
      have I1 := hidD (I.out.below hb1)
      have O1 := hidD ho1
      have hz1' := hb1.size
      have hzI := I.out.bel.size
      clear hb1 ho1 I HC J
      obtain ⟨vs, e1, e2, e3, e4⟩ := I1.out.own
      have E4 := hidD e4
      have E3 := hidD e3
      have bx : Below w1.heap.size w1 (w1.alloc (.cells #[.slice p1 p2 p3] 22)) := box_below w1 #[.slice p1 p2 p3] 22
      have E2 := hidD (own_belowK bx e2)
      have BX := hidD bx
      have NW := hidD (new_at w1 22 [.slice p1 p2 p3])
      have hzB := bx.size
      clear e2 e3 e4 bx
      go_wp2_with (at_builtin; refine wpList_append_own _ rfl _ _ 26 rfl w.heap.size 22 i0 _ 1 24 Tryz.underlying26 hi hz0 hz1 hz2 rfl (by decide) _ _ _ rfl E2.out ⟨w1.heap.size, 0, none⟩ 1 1 [.slice p1 p2 p3] rfl rfl NW.out (by intro x hx; rw [List.mem_singleton.1 hx]; rfl) (by unfold maxLen; omega) (by omega) (by omega) ?_; intro v2 w2 hown2 hg2 _)
      refine ⟨⟨i + 1, by omega, by go_num, ⟨(I1.out.bel.trans (BX.out.mono I1.out.bel.size)).grown hg2 (by omega) (fun k e => (E2.out.lt k e).1), vs ++ [.slice p1 p2 p3], by simp [e1], hown2, ?_, ?_⟩⟩, by simp [intOf]; omega⟩
      · intro x hx
        rcases List.mem_append.1 hx with h | h
        · exact E3.out x h
        · rw [List.mem_singleton.1 h]; rfl
      · intro k hk
        by_cases hki : k < vs.length
        · obtain ⟨B, hB, hr⟩ := E4.out k hki
          refine ⟨B, hB, ?_⟩
          rw [List.getElem_append_left hki]
          exact row_row (own_belowK BX.out hr) E2.out (by decide) hg2
        · have hke : k = i := by
            rw [List.length_append, List.length_singleton] at hk
            omega
          subst hke
          refine ⟨_, hzI, ?_⟩
          rw [List.getElem_append_right (by omega)]
          simp only [List.getElem_singleton]
          exact row_row (own_belowK BX.out O1.out) E2.out (by decide) hg2
    · have hie : i = l.length + 1 := by omega
      subst hie
      go_wp2_with fail
      go_ret
      exact ⟨_, rfl, I.out⟩
end Go.Proofs.YtemkpollilhmjaaGreatDoor

/- The trees of a way, as the law gathers them: a script that does not go. -/
namespace Go.Proofs.YtemkpollilhmjaaGreatDoor
open Go.RowKit
set_option linter.unusedVariables false
set_option linter.unusedSimpArgs false

structure StsE (w u : World) (av : Value) (fold : Bool) (S : List EntD) (l : List OpD) (i : Nat) : Prop where
  bel : Below w.heap.size w u
  own : ∃ vs : List Value, u.ownsRow w.heap.size 22 1 av i vs
  went : ∀ j, j < i → ∃ x, tryP fold 9223372036854775807 S (l.take j) = .ok x

set_option maxHeartbeats 8000000 in
set_option maxRecDepth 100000 in
theorem states_err {w : World} {sv : Value} {la : Option Addr} {lc : Nat} {S : List EntD} {l : List OpD} {ck : Int × Int} (fold : Bool) (hs : RowAt w sv S) (sS : SmallL S) (hg : Gd w) (ho : OpRow w (.slice la l.length lc) l) (hcap : l.length ≤ lc) (hl : l.length ≤ 2000000) (hos : ∀ o ∈ l, o.small) (hX : tryP fold 9223372036854775807 S l = .error ck) :
    Calls Tryz.prog 8 #[sv, .bool fold, .slice la l.length lc] w fun e w' => e = .returned (.slice none 0 0) ∧ Below w.heap.size w w' := by
  obtain ⟨i0, hi, hz0, hz1, hz2⟩ := info_parts info22
  have HS := hidD hs
  have HSS := hidD sS
  have HG := hidD hg
  have HO := hidD ho
  have HOS := hidD hos
  have HX := hidD hX
  obtain ⟨sa, sc, rfl⟩ := hs.val
  clear hs sS hg ho hos hX
  go_enter Tryz.func8, Tryz.ntmps8
  go_wp2
  go_loopw [7, 8] (fun av iv wr => ∃ i : Nat, i ≤ l.length + 1 ∧ iv = .int .i64 i ∧ Hid (StsE w wr av fold S l i)) (fun _ iv _ => l.length + 1 - (intOf iv).toNat)
  case atStart => exact ⟨0, Nat.zero_le _, rfl, ⟨Below.refl _ _, ⟨[], World.ownsRow_nil _ _ _ _⟩, fun j hj => absurd hj (Nat.not_lt_zero _)⟩⟩
  case round =>
    obtain ⟨i, hi', rfl, I⟩ := hrel
    by_cases hlt : i ≤ l.length
    · have hic : i ≤ lc := by omega
      obtain ⟨qa, qc, hq⟩ : ∃ a c, u7 = .slice a i c := by
        obtain ⟨vs, h2⟩ := I.out.own
        exact row_shape0 h2
      subst hq
      cases hT : tryP fold 9223372036854775807 S (l.take i) with
      | error ck' =>
        obtain ⟨c, k⟩ := ck'
        have hc := tryP_err0 hT
        have hc2 : (c == 0) = false := by simpa using hc
        have HC := hidD (faceTry (vTry fold (HS.out.below I.out.bel (Nat.le_refl _)) HSS.out (HG.out.below I.out.bel) ((HO.out.below I.out.bel (Nat.le_refl _)).takeK i hlt) (by rw [List.length_take]; omega) (fun o ho => HOS.out o (List.mem_of_mem_take ho)) _ hT))
        clear hT
        go_wp2_with fail
        refine HC.out.mono ?_
        rintro e w1 ⟨v1, rfl, ho1, hb1⟩
        simp only [rC, rN, rK, rM] at ho1 ⊢
        obtain ⟨p1, p2, p3, hp⟩ := shape_of ho1
        subst hp
        have B1 := hidD (I.out.bel.trans (hb1.mono I.out.bel.size))
        clear ho1 hb1 HC
        go_wp2_with fail
        go_ret
        exact ⟨rfl, B1.out⟩
      | ok x =>
        obtain ⟨L1, n1⟩ := x
        have HC := hidD (faceTry (vTry fold (HS.out.below I.out.bel (Nat.le_refl _)) HSS.out (HG.out.below I.out.bel) ((HO.out.below I.out.bel (Nat.le_refl _)).takeK i hlt) (by rw [List.length_take]; omega) (fun o ho => HOS.out o (List.mem_of_mem_take ho)) _ hT))
        have HT := hidD hT
        clear hT
        go_wp2_with fail
        refine HC.out.mono ?_
        rintro e w1 ⟨v1, rfl, ho1, hb1⟩
        simp only [rC, rN, rK, rM] at ho1 ⊢
        obtain ⟨p1, p2, p3, hp⟩ := shape_of ho1
        subst hp
        have B1 := hidD (I.out.bel.trans (hb1.mono I.out.bel.size))
        obtain ⟨vs, e2⟩ := I.out.own
        have bx : Below w1.heap.size w1 (w1.alloc (.cells #[.slice p1 p2 p3] 22)) := box_below w1 #[.slice p1 p2 p3] 22
        have E2 := hidD (own_belowK bx (own_belowK hb1 e2))
        have BX := hidD (B1.out.trans (bx.mono B1.out.size))
        have NW := hidD (new_at w1 22 [.slice p1 p2 p3])
        have hzB := BX.out.size
        clear ho1 hb1 e2 bx HC
        go_wp2_with (at_builtin; refine wpList_append_own _ rfl _ _ 26 rfl w.heap.size 22 i0 _ 1 24 Tryz.underlying26 hi hz0 hz1 hz2 rfl (by decide) _ _ _ rfl E2.out ⟨w1.heap.size, 0, none⟩ 1 1 [.slice p1 p2 p3] rfl rfl NW.out (by intro x hx; rw [List.mem_singleton.1 hx]; rfl) (by unfold maxLen; omega) (by omega) (by omega) ?_; intro v2 w2 hown2 hg2 _)
        refine ⟨⟨i + 1, by omega, by go_num, ⟨BX.out.grown hg2 hzB (fun k e => (E2.out.lt k e).1), ⟨_, hown2⟩, fun j hj => ?_⟩⟩, by simp [intOf]; omega⟩
        by_cases e : j = i
        · subst e; exact ⟨_, HT.out⟩
        · exact I.out.went j (by omega)
    · obtain ⟨x, hx⟩ := I.out.went l.length (by omega)
      have h := HX.out
      rw [List.take_length] at hx
      rw [hx] at h
      cases h
end Go.Proofs.YtemkpollilhmjaaGreatDoor

/- The law Apart: two volumes that are worked in turns. -/
namespace Go.Proofs.YtemkpollilhmjaaGreatDoor
open Go.RowKit
set_option linter.unusedVariables false
set_option linter.unusedSimpArgs false

theorem NumRow.form {w : World} {v : Value} {ts : List Int} (h : NumRow w v ts) (hn : 0 < ts.length) : ∃ b off cap, v = .slice (some ⟨b, off, none⟩) ts.length cap ∧ b < w.heap.size ∧ ∀ (k : Nat) (hk : k < ts.length), w.cell? ⟨b, off + k, none⟩ = some (.int .i64 ts[k]) := by
  cases h with
  | nil => simp at hn
  | row b off cap ts hb h => exact ⟨b, off, cap, rfl, hb, h⟩

set_option maxHeartbeats 8000000 in
set_option maxRecDepth 100000 in
theorem apart_any (a b xv yv tv : Value) (fold : Bool) (A B : List EntD) (X Y : List OpD) (ts : List Int) (w : World) (hg : Gd w) (ha : RowAt w a A) (hb : RowAt w b B) (hx : OpRow w xv X) (hy : OpRow w yv Y) (ht : NumRow w tv ts) (sA : SmallL A) (sB : SmallL B) (lX : X.length ≤ 2000000) (lY : Y.length ≤ 2000000) (oX : ∀ o ∈ X, o.small) (oY : ∀ o ∈ Y, o.small) (lt : ts.length ≤ 2000000) (bt : ∀ t ∈ ts, -9223372036854775808 ≤ t ∧ t ≤ 9223372036854775807) :
    Calls Tryz.prog 6 #[a, b, .bool fold, xv, yv, tv] w fun e w' => e = .returned (.bool true) ∧ Below w.heap.size w w' := by
  have HA := hidD ha
  have HB := hidD hb
  have HX := hidD hx
  have HY := hidD hy
  have HT := hidD ht
  have HSA := hidD sA
  have HSB := hidD sB
  have HOX := hidD oX
  have HOY := hidD oY
  have HG := hidD hg
  have HBT := hidD bt
  have hbig := hg.big
  obtain ⟨aa, ac, rfl⟩ := ha.val
  obtain ⟨ba, bc, rfl⟩ := hb.val
  obtain ⟨xa, xc, rfl⟩ := hx.val
  obtain ⟨ya, yc, rfl⟩ := hy.val
  obtain ⟨ta, tc, rfl⟩ := ht.val
  clear ha hb hx hy ht sA sB oX oY hg bt
  go_enter Tryz.func6, Tryz.ntmps6
  go_wp2_with fail
  refine (alive_any _ HG.out).mono ?_
  rintro e w1 ⟨rfl, hb1⟩
  have B1 := hidD hb1
  clear hb1
  go_wp2_with fail
  refine (faceTry (vTry fold (HA.out.below B1.out (Nat.le_refl _)) HSA.out (HG.out.below B1.out) (HX.out.below B1.out (Nat.le_refl _)) lX HOX.out _ rfl)).mono ?_
  rintro e w2 ⟨v2, rfl, ho2, hb2⟩
  obtain ⟨a2, n2, c2, hv2⟩ := shape_of ho2
  subst hv2
  have B2 := hidD (B1.out.trans (hb2.mono B1.out.size))
  have R2 := hidD (RowAt.ofOwn ho2)
  clear ho2 hb2 B1
  go_wp2_with fail
  refine (faceTry (vTry (!fold) (HB.out.below B2.out (Nat.le_refl _)) HSB.out (HG.out.below B2.out) (HY.out.below B2.out (Nat.le_refl _)) lY HOY.out _ rfl)).mono ?_
  rintro e w3 ⟨v3, rfl, ho3, hb3⟩
  obtain ⟨a3, n3, c3, hv3⟩ := shape_of ho3
  subst hv3
  have B3 := hidD (B2.out.trans (hb3.mono B2.out.size))
  have R3a := hidD (R2.out.below hb3 (Nat.le_refl _))
  have R3 := hidD (RowAt.ofOwn ho3)
  have A3 := hidD (HA.out.below B3.out (Nat.le_refl _))
  have BB3 := hidD (HB.out.below B3.out (Nat.le_refl _))
  have X3 := hidD (HX.out.below B3.out (Nat.le_refl _))
  have Y3 := hidD (HY.out.below B3.out (Nat.le_refl _))
  have T3 := hidD (HT.out.below B3.out (Nat.le_refl _))
  have G3 := hidD (HG.out.below B3.out)
  have hbig3 := G3.out.big
  clear ho3 hb3 B2 R2 HA HB HX HY HT HG hbig
  cases hX1 : tryP fold 9223372036854775807 A X with
  | error ck =>
    obtain ⟨c, k⟩ := ck
    have hc := tryP_err0 hX1
    have hc2 : (c == 0) = false := by simpa using hc
    clear hX1 R3a R3
    generalize rN (tryP (!fold) 9223372036854775807 B Y) = z1
    generalize rC (tryP (!fold) 9223372036854775807 B Y) = z2
    generalize rK (tryP (!fold) 9223372036854775807 B Y) = z3
    simp only [rC, rN, rK]
    go_wp2_with fail
    refine (mount_any fold A3.out HSA.out).mono ?_
    rintro e w4 ⟨p4, n4, rfl, hb4⟩
    have B4 := hidD hb4
    clear hb4
    go_wp2_with fail
    refine (mount_any (!fold) (BB3.out.below B4.out (Nat.le_refl _)) HSB.out).mono ?_
    rintro e w5 ⟨p5, n5, rfl, hb5⟩
    have B5 := hidD ((B3.out.trans (B4.out.mono B3.out.size)).trans (hb5.mono (Nat.le_trans B3.out.size B4.out.size)))
    clear hb5
    go_wp2_with fail
    go_ret
    exact ⟨rfl, B5.out⟩
  | ok Mn =>
    obtain ⟨M1, N1⟩ := Mn
    cases hX2 : tryP (!fold) 9223372036854775807 B Y with
    | error ck =>
      obtain ⟨c, k⟩ := ck
      have hc := tryP_err0 hX2
      have hc2 : (c == 0) = false := by simpa using hc
      clear hX1 hX2 R3a R3
      simp only [rC, rN, rK]
      go_wp2_with fail
      refine (mount_any fold A3.out HSA.out).mono ?_
      rintro e w4 ⟨p4, n4, rfl, hb4⟩
      have B4 := hidD hb4
      clear hb4
      go_wp2_with fail
      refine (mount_any (!fold) (BB3.out.below B4.out (Nat.le_refl _)) HSB.out).mono ?_
      rintro e w5 ⟨p5, n5, rfl, hb5⟩
      have B5 := hidD ((B3.out.trans (B4.out.mono B3.out.size)).trans (hb5.mono (Nat.le_trans B3.out.size B4.out.size)))
      clear hb5
      go_wp2_with fail
      go_ret
      exact ⟨rfl, B5.out⟩
    | ok Mn2 =>
      obtain ⟨M2, N2⟩ := Mn2
      rw [hX1] at R3a
      rw [hX2] at R3
      simp only [rC, rN, rK, rM] at R3a R3 ⊢
      have H1 := hidD hX1
      have H2 := hidD hX2
      clear hX1 hX2
      go_wp2_with fail
      refine (mount_tree (w3 := w3) (x := X) (try_tree H1.out) A3.out HSA.out (Nat.le_refl _)).mono ?_
      rintro e w4 ⟨va, v4, rfl, hva, ap, hb4⟩
      have P4 := hidD ap
      have B4 := hidD hb4
      have hlt4 := ap.vk.lt
      clear ap hb4
      go_wp2_with fail
      refine (mount_tree (w3 := w3) (x := Y) (try_tree H2.out) (BB3.out.below B4.out (Nat.le_refl _)) HSB.out B4.out.size).mono ?_
      rintro e w5 ⟨vb, v5, rfl, hvb, ap, hb5⟩
      have P5 := hidD (P4.out.below hb5)
      have Q5 := hidD ap
      have B5 := hidD (B4.out.trans (hb5.mono B4.out.size))
      have hne : va ≠ vb := by omega
      clear ap hb5 P4 B4 hva hvb hlt4
      go_wp2_with fail
      go_loopw [26] (fun iv wr => ∃ (i : Nat) (v1 : Value) (V1 : List EntD) (m1 d1 : Nat) (v2 : Value) (V2 : List EntD) (m2 d2 : Nat), i ≤ ts.length ∧ iv = .int .i64 i ∧ Hid (Ap w3 wr fold A X va v1 V1 m1 d1) ∧ Hid (Ap w3 wr (!fold) B Y vb v2 V2 m2 d2) ∧ Hid (Below w3.heap.size w3 wr)) (fun iv _ => ts.length - (intOf iv).toNat)
      case atStart => exact ⟨0, _, _, _, _, _, _, _, _, Nat.zero_le _, rfl, P5, Q5, B5⟩
      case round =>
        obtain ⟨i, v1, V1, m1, d1, v2, V2, m2, d2, hi, rfl, P, Q, BW⟩ := hrel
        clear P5 Q5 B5
        by_cases hlt : i < ts.length
        · obtain ⟨tb, toff, tcap, hv, htb, hcell⟩ := T3.out.form (by omega)
          cases hv
          have hj : ∃ j : Nat, (ts.length : Int) - 1 - i = j ∧ j < ts.length := ⟨ts.length - 1 - i, by omega, by omega⟩
          obtain ⟨j, hjj, hjl⟩ := hj
          have cI := cell_kept BW.out htb (hcell i hlt)
          have bI := HBT.out ts[i] (List.getElem_mem hlt)
          have bJ := HBT.out ts[j] (List.getElem_mem hjl)
          have CJ := hidD (hcell j hjl)
          clear hcell
          generalize ts[i] = t1 at *
          generalize ts[j] = t2 at *
          go_wp2_with fail
          refine (pickK t1 40 _ (by decide) (by decide) bI.1 bI.2).mono ?_
          rintro e wz ⟨k1, hk1, rfl, hwz⟩; rw [hwz]; clear hwz wz
          go_wp2_with fail
          refine (P.out.work BW.out hbig3 G3.out A3.out HSA.out X3.out lX HOX.out H1.out k1 (by omega) (by omega)).mono ?_
          rintro e u1 ⟨e1, k1', v1', V1', m1', d1', rfl, ap, gr, bel, _⟩
          have P1 := hidD ap
          have Q1 := hidD (Q.out.other P.out.vk (fun e => hne e.symm) gr)
          have B1' := hidD bel
          have cJ := cell_kept bel htb CJ.out
          clear ap gr bel P Q BW cI
          go_wp2_with fail
          refine (pickK t2 30 _ (by decide) (by decide) bJ.1 bJ.2).mono ?_
          rintro e wz ⟨k2, hk2, rfl, hwz⟩; rw [hwz]; clear hwz wz
          go_wp2_with fail
          refine (Q1.out.work B1'.out hbig3 G3.out BB3.out HSB.out Y3.out lY HOY.out H2.out k2 (by omega) (by omega)).mono ?_
          rintro e u2 ⟨e2, k2', v2', V2', m2', d2', rfl, ap, gr, bel, _⟩
          have Q2 := hidD ap
          have P2 := hidD (P1.out.other Q1.out.vk hne gr)
          have B2' := hidD bel
          clear ap gr bel P1 Q1 B1' cJ CJ
          go_wp2_with fail
          exact ⟨⟨i + 1, _, _, _, _, _, _, _, _, by omega, by go_num, P2, Q2, B2'⟩, by simp [intOf]; omega⟩
        · have hie : i = ts.length := by omega
          subst hie
          go_wp2_with fail
          refine (P.out.work BW.out hbig3 G3.out A3.out HSA.out X3.out lX HOX.out H1.out (100 * ((X.length : Int) + 1)) (by omega) (by omega)).mono ?_
          rintro e u1 ⟨e1, k1', v1', V1', m1', d1', rfl, ap, gr, bel, hE⟩
          obtain ⟨rfl, rfl, rfl⟩ := work_all H1.out ap.wk hE P.out.le
          have P1 := hidD ap
          have Q1 := hidD (Q.out.other P.out.vk (fun e => hne e.symm) gr)
          have B1' := hidD bel
          clear ap gr bel P Q BW hE
          go_wp2_with fail
          refine (Q1.out.work B1'.out hbig3 G3.out BB3.out HSB.out Y3.out lY HOY.out H2.out (100 * ((Y.length : Int) + 1)) (by omega) (by omega)).mono ?_
          rintro e u2 ⟨e2, k2', v2', V2', m2', d2', rfl, ap, gr, bel, hE⟩
          obtain ⟨rfl, rfl, rfl⟩ := work_all H2.out ap.wk hE Q1.out.le
          have Q2 := hidD ap
          have P2 := hidD (P1.out.other Q1.out.vk hne gr)
          have B2' := hidD bel
          clear ap gr bel P1 Q1 B1' hE
          go_wp2_with fail
          refine (cTree P2.out.vk P2.out.row (by have := P2.out.wk.vol.few; omega)).mono ?_
          rintro e u3 ⟨tv1, rfl, ho, hb⟩
          obtain ⟨q1, q2, q3, hq⟩ := shape_of ho
          subst hq
          have B3' := hidD (B2'.out.trans (hb.mono B2'.out.size))
          have Q3 := hidD (Q2.out.below hb)
          have TV := hidD (RowAt.ofOwn ho)
          have few1 := P2.out.wk.vol.few
          clear ho hb B2' P2 Q2
          go_wp2_with fail
          refine (rEq TV.out (R3a.out.below B3'.out (Nat.le_refl _)) (by omega)).mono ?_
          rintro e u4 ⟨b4, rfl, hbb, nn, rfl⟩
          have hb4 : b4 = true := hbb.2 rfl
          subst hb4
          clear hbb
          have B4' := hidD (B3'.out.trans ((below_drewNB u3 nn).mono (Nat.le_refl _)))
          have Q4 := hidD (Q3.out.below (below_drewNB u3 nn))
          generalize u3.drewN nn = u5 at *
          clear B3' Q3 TV
          go_wp2_with fail
          refine (cTree Q4.out.vk Q4.out.row (by have := Q4.out.wk.vol.few; omega)).mono ?_
          rintro e u6 ⟨tv2, rfl, ho, hb⟩
          obtain ⟨q4, q5, q6, hq⟩ := shape_of ho
          subst hq
          have B6' := hidD (B4'.out.trans (hb.mono B4'.out.size))
          have TV := hidD (RowAt.ofOwn ho)
          have few2 := Q4.out.wk.vol.few
          clear ho hb B4' Q4
          go_wp2_with fail
          refine (rEq TV.out (R3.out.below B6'.out (Nat.le_refl _)) (by omega)).mono ?_
          rintro e u7 ⟨b7, rfl, hbb, nn, rfl⟩
          have hb7 : b7 = true := hbb.2 rfl
          subst hb7
          clear hbb
          have B7' := hidD (B3.out.trans ((B6'.out.trans ((below_drewNB u6 nn).mono (Nat.le_refl _))).mono B3.out.size))
          generalize u6.drewN nn = u8 at *
          clear B6' TV
          go_wp2_with fail
          go_ret
          exact ⟨rfl, B7'.out⟩
end Go.Proofs.YtemkpollilhmjaaGreatDoor

/- The law Resumes: a volume that is worked piece by piece. -/
namespace Go.Proofs.YtemkpollilhmjaaGreatDoor
open Go.RowKit
set_option linter.unusedVariables false
set_option linter.unusedSimpArgs false

def waysL (fold : Bool) (S : List EntD) (l : List OpD) : List (List EntD) := (List.range (l.length + 1)).map (wayT fold S l)
theorem StsI.sts {w u : World} {av : Value} {fold : Bool} {S : List EntD} {l : List OpD} (h : StsI w u av fold S l (l.length + 1)) : ∃ g cap vs, av = .slice (some ⟨g, 0, none⟩) vs.length cap ∧ vs.length = l.length + 1 ∧ Sts u g vs (waysL fold S l) := by
  obtain ⟨vs, h1, h2, h3, h4⟩ := h.own
  obtain ⟨g, c, rfl⟩ := row_form h2 (by omega)
  refine ⟨g, c, vs, by rw [h1], h1, (h2.lt g rfl).2, by simp [waysL, h1], fun k hk => (blk_of_row h2).cell k (by simp [hk]), fun k hk hk' => ?_⟩
  obtain ⟨B, _, ho⟩ := h4 k hk
  have : (waysL fold S l)[k] = wayT fold S l k := by simp [waysL]
  rw [this]
  exact RowAt.ofOwn ho
theorem way_in {fold : Bool} {S V : List EntD} {l : List OpD} {m d : Nat} (h : WkV fold (wayT fold S l) l V m d) : V ∈ waysL fold S l := by
  obtain ⟨h1, h2, _⟩ := h.here
  exact List.mem_map.2 ⟨d, by simp; omega, h2.symm⟩
theorem mu_le {l : List OpD} {m d : Nat} : muW l m d ≤ 2 * (l.length : Int) + 2 := by
  unfold muW
  split <;> omega

set_option maxHeartbeats 16000000 in
set_option maxRecDepth 100000 in
theorem resumes_any (sv tv : Value) (la : Option Addr) (lc : Nat) (fold : Bool) (S : List EntD) (l : List OpD) (ts : List Int) (w : World) (hg : Gd w) (hs : RowAt w sv S) (ho : OpRow w (.slice la l.length lc) l) (hcap : l.length ≤ lc) (ht : NumRow w tv ts) (sS : SmallL S) (hl : l.length ≤ 2000000) (hos : ∀ o ∈ l, o.small) (lt : ts.length ≤ 2000000) (bt : ∀ t ∈ ts, -9223372036854775808 ≤ t ∧ t ≤ 9223372036854775807) :
    Calls Tryz.prog 3 #[sv, .bool fold, .slice la l.length lc, tv] w fun e w' => e = .returned (.bool true) ∧ Below w.heap.size w w' := by
  have hneq := fun (u : World) (a : Option Addr) (n c : Nat) => Lib.run_eql_slice_nil (P := Tryz.prog) u 26 22 a n c 0 0 Tryz.underlying26
  have HS := hidD hs
  have HO := hidD ho
  have HT := hidD ht
  have HSS := hidD sS
  have HOS := hidD hos
  have HG := hidD hg
  have HBT := hidD bt
  obtain ⟨sa, sc, rfl⟩ := hs.val
  obtain ⟨ta, tc, rfl⟩ := ht.val
  clear hs ho ht sS hos hg bt
  go_enter Tryz.func3, Tryz.ntmps3
  go_wp2_with fail
  refine (alive_any _ HG.out).mono ?_
  rintro e w1 ⟨rfl, hb1⟩
  have B1 := hidD hb1
  clear hb1
  cases hX : tryP fold 9223372036854775807 S l with
  | error ck =>
    have HE := hidD (states_err fold (HS.out.below B1.out (Nat.le_refl _)) HSS.out (HG.out.below B1.out) (HO.out.below B1.out (Nat.le_refl _)) hcap hl HOS.out hX)
    clear hX
    go_wp2_with fail
    refine HE.out.mono ?_
    rintro e w2 ⟨rfl, hb2⟩
    have B2 := hidD (B1.out.trans (hb2.mono B1.out.size))
    clear hb2 HE
    go_wp2_with fail
    go_ret
    exact ⟨rfl, B2.out⟩
  | ok Mn =>
    obtain ⟨M, n⟩ := Mn
    have HE := hidD (states_ok fold (HS.out.below B1.out (Nat.le_refl _)) HSS.out (HG.out.below B1.out) (HO.out.below B1.out (Nat.le_refl _)) hcap hl HOS.out hX)
    have HX := hidD hX
    have h4 := (try_ok hX).1
    clear hX
    go_wp2_with fail
    refine HE.out.mono ?_
    rintro e w2 ⟨av, rfl, hst⟩
    obtain ⟨g, cap, vs, rfl, hvs, hsts⟩ := hst.sts
    have ST := hidD hsts
    have HV := hidD hvs
    have B2 := hidD (B1.out.trans (hst.bel.mono B1.out.size))
    have hvl : vs.length ≤ 2000000 := by omega
    have S2 := hidD (HS.out.below B2.out (Nat.le_refl _))
    have O2 := hidD (HO.out.below B2.out (Nat.le_refl _))
    have T2 := hidD (HT.out.below B2.out (Nat.le_refl _))
    have G2 := hidD (HG.out.below B2.out)
    have hbig := G2.out.big
    have hXB := box_below w2 #[.slice sa S.length sc, .bool fold, .int .i64 100000, .string ⟨#[]⟩] 30
    have L0 : Hid (Lft w2 (w2.alloc (.cells #[.slice sa S.length sc, .bool fold, .int .i64 100000, .string ⟨#[]⟩] 30)) w2.heap.size fold 100000 S l (.slice sa S.length sc) S 0 0) := ⟨hXB, Nat.le_refl _, Blk.new w2 30 [.slice sa S.length sc, .bool fold, .int .i64 100000, .string ⟨#[]⟩], S2.out.below hXB (Nat.le_refl _), WkV.begin (tree_vol (try_tree HX.out))⟩
    clear hst hsts hvs HE hXB HS HO HT HG
    go_wp2_with fail
    generalize hW : w2.alloc (.cells #[.slice sa S.length sc, .bool fold, .int .i64 100000, .string ⟨#[]⟩] 30) = wx at *
    clear hW
    generalize hxb : w2.heap.size = xb at L0 ⊢
    have hnv : l.length < vs.length := by have := HV.out; omega
    have hnw : l.length < (waysL fold S l).length := by simp [waysL]
    have HW := hidD (show (waysL fold S l)[l.length] = wayT fold S l l.length by simp [waysL])
    generalize hq : ((waysL fold S l)[l.length]).length = qn at *
    go_loopw [13] (fun iv wr => ∃ (i : Nat) (v1 : Value) (V1 : List EntD) (m1 d1 : Nat), i ≤ ts.length ∧ iv = .int .i64 i ∧ Hid (Lft w2 wr xb fold 100000 S l v1 V1 m1 d1)) (fun iv _ => ts.length - (intOf iv).toNat)
    case atStart => exact ⟨0, _, _, _, _, Nat.zero_le _, rfl, L0⟩
    case round =>
      obtain ⟨i, v1, V1, m1, d1, hi, rfl, P⟩ := hrel
      clear L0
      by_cases hlt : i < ts.length
      · obtain ⟨tb, toff, tcap, hv, htb, hcell⟩ := T2.out.form (by omega)
        cases hv
        have cI := cell_kept P.out.bel htb (hcell i hlt)
        have bI := HBT.out ts[i] (List.getElem_mem hlt)
        clear hcell
        generalize ts[i] = t1 at *
        go_wp2_with fail
        refine (pickK t1 120 _ (by decide) (by decide) bI.1 bI.2).mono ?_
        rintro e wz ⟨k1, hk1, rfl, hwz⟩; rw [hwz]; clear hwz wz
        go_wp2_with fail
        refine (works9 P.out hbig G2.out S2.out HSS.out O2.out hl HOS.out HX.out (by have := (used_le P.out.wk.vol).2; omega) (by decide) (by have := P.out.wk.mle; omega) k1 (by omega) (by omega)).mono ?_
        rintro e u1 ⟨e1, k1', v1', V1', m1', d1', rfl, hL, hd, hE⟩
        obtain ⟨pa, pc, hv⟩ := hL.row.val
        subst hv
        have c0 := hL.x.cell 0 rfl
        have O11 := hidD (one11 (cap := cap) hL.row (by have := hL.wk.vol.few; omega) (ST.out.below hL.bel (Nat.le_refl _)) hvl (way_in hL.wk))
        have L1 := hidD hL
        have HD := hidD hE
        clear hL hE hd P cI
        generalize hqv : V1'.length = q1 at *
        go_wp2_with fail
        refine O11.out.mono ?_
        rintro e u2 ⟨rfl, hb2⟩
        have L2 := hidD (L1.out.below hb2)
        clear hb2 L1 O11 c0
        have c0 := L2.out.x.cell 0 rfl
        have SN := hidD (ST.out.below L2.out.bel (Nat.le_refl _))
        have cN := SN.out.cell l.length hnv
        have RN := hidD (SN.out.row l.length hnv hnw)
        obtain ⟨na, nc, hvn⟩ := RN.out.val
        rw [hvn] at cN RN
        have E0 := hidD (rEq (w := u2.drew) ((L2.out.row).below (below_drewB _) (Nat.le_refl _)) (RN.out.below (below_drewB _) (Nat.le_refl _)) (by have := L2.out.wk.vol.few; omega))
        rw [hq] at cN E0 hvn
        have HVN := hidD hvn
        clear hvn
        clear RN SN
        rcases HD.out with ⟨rfl, rfl, hdl⟩ | ⟨rfl, rfl, hdlt, hmu⟩ | ⟨_, _, _, hlt', h11⟩
        · have hVW : Hid (V1' = (waysL fold S l)[l.length]) := by
            have := L2.out.wk.here.2.1
            rw [hdl] at this
            exact this.trans HW.out.symm
          clear HD
          go_wp2_with fail
          go_region_held3 (fun v => v.cell? ⟨xb, 0, none⟩ = some (.slice pa q1 pc) ∧ v.cell? ⟨g, l.length, none⟩ = some (.slice na qn nc)) (go_keep) (first | (go_at_call 12; refine E0.out.mono ?_; rintro e u3 ⟨b, rfl, hbb, nn, rfl⟩; have hb3 : b = true := hbb.2 hVW.out; subst hb3; clear hbb; have L3 := hidD (L2.out.below ((below_drewB _).trans (below_drewNB _ nn))); generalize u2.drew.drewN nn = u4 at *; have c3 := L3.out.x.cell 0 rfl; have cN3 := cell_kept (L3.out.bel) ST.out.lt (ST.out.cell l.length hnv); rw [HVN.out] at cN3))
          clear c3 cN3 c0 cN E0
          go_wp2_with fail
          exact ⟨⟨i + 1, _, _, _, _, by omega, by go_num, L3⟩, by simp [intOf]; omega⟩
        · clear HD
          go_wp2_with fail
          go_region_held3 (fun v => v.cell? ⟨xb, 0, none⟩ = some (.slice pa q1 pc) ∧ v.cell? ⟨g, l.length, none⟩ = some (.slice na qn nc)) (go_keep) (first | (go_at_call 12; refine E0.out.mono ?_; rintro e u3 ⟨b, rfl, hbb, nn, rfl⟩; clear hbb; have L3 := hidD (L2.out.below ((below_drewB _).trans (below_drewNB _ nn))); generalize u2.drew.drewN nn = u4 at *; have c3 := L3.out.x.cell 0 rfl; have cN3 := cell_kept (L3.out.bel) ST.out.lt (ST.out.cell l.length hnv); rw [HVN.out] at cN3))
          clear c3 cN3 c0 cN E0
          go_wp2_with fail
          exact ⟨⟨i + 1, _, _, _, _, by omega, by go_num, L3⟩, by simp [intOf]; omega⟩
        · exact absurd h11 (no11 HX.out L2.out.wk hlt')
      · have hie : i = ts.length := by omega
        subst hie
        go_wp2_with fail
        go_loopw [19] (fun iv wr => ∃ (i : Nat) (v1 : Value) (V1 : List EntD) (m1 d1 : Nat), i ≤ l.length + 1 ∧ iv = .int .i64 i ∧ Hid (Lft w2 wr xb fold 100000 S l v1 V1 m1 d1) ∧ Hid (d1 = l.length ∨ muW l m1 d1 + 100 * i ≤ 2 * (l.length : Int) + 2)) (fun iv _ => l.length + 1 - (intOf iv).toNat)
        case atStart => exact ⟨0, _, _, _, _, Nat.zero_le _, rfl, P, .inr (by have := mu_le (l := l) (m := m1) (d := d1); omega)⟩
        case round =>
          obtain ⟨i, v1, V1, m1, d1, hi, rfl, P', MU⟩ := hrel
          clear P
          by_cases hlt : i ≤ l.length
          · go_wp2_with fail
            refine (works9 P'.out hbig G2.out S2.out HSS.out O2.out hl HOS.out HX.out (by have := (used_le P'.out.wk.vol).2; omega) (by decide) (by have := P'.out.wk.mle; omega) 100 (by omega) (by omega)).mono ?_
            rintro e u1 ⟨e1, k1', v1', V1', m1', d1', rfl, hL, hd, hE⟩
            obtain ⟨pa, pc, hv⟩ := hL.row.val
            subst hv
            have c0 := hL.x.cell 0 rfl
            have O11 := hidD (one11 (cap := cap) hL.row (by have := hL.wk.vol.few; omega) (ST.out.below hL.bel (Nat.le_refl _)) hvl (way_in hL.wk))
            have L1 := hidD hL
            have hdl := hL.wk.here.1
            have MU' : Hid ((e1 = 0 ∨ e1 = 17) ∧ (d1' = l.length ∨ muW l m1' d1' + 100 * ((i + 1 : Nat) : Int) ≤ 2 * (l.length : Int) + 2)) := by
              rcases hE with ⟨h1, _, h3⟩ | ⟨h1, _, h2, h3⟩ | ⟨_, _, _, hlt', h11⟩
              · exact ⟨.inl h1, .inl h3⟩
              · refine ⟨.inr h1, .inr ?_⟩
                rcases MU.out with h | h
                · omega
                · push_cast; omega
              · exact absurd h11 (no11 HX.out hL.wk hlt')
            clear hL hE hd P' MU
            generalize hqv : V1'.length = q1 at *
            rcases MU'.out with ⟨rfl | rfl, MM⟩
            all_goals
              have MU2 := hidD MM
              clear MM MU'
              go_wp2_with fail
              refine O11.out.mono ?_
              rintro e u2 ⟨rfl, hb2⟩
              have L2 := hidD (L1.out.below hb2)
              clear hb2 L1 O11 c0
              go_wp2_with fail
              exact ⟨⟨i + 1, _, _, _, _, by omega, by go_num, L2, MU2⟩, by simp [intOf]; omega⟩
          · have hd1 : d1 = l.length := by
              rcases MU.out with h | h
              · exact h
              · have := P'.out.wk.here.2.2
                omega
            go_wp2_with fail
            refine (works9 P'.out hbig G2.out S2.out HSS.out O2.out hl HOS.out HX.out (by have := (used_le P'.out.wk.vol).2; omega) (by decide) (by have := P'.out.wk.mle; omega) 0 (by omega) (by omega)).mono ?_
            rintro e u1 ⟨e1, k1', v1', V1', m1', d1', rfl, hL, hd, hE⟩
            obtain ⟨he, hk, hdl⟩ : e1 = 0 ∧ k1' = l.length ∧ d1' = l.length := by
              rcases hE with h | ⟨_, _, h2, _⟩ | ⟨_, _, _, hlt', h11⟩
              · exact h
              · omega
              · exact absurd h11 (no11 HX.out hL.wk hlt')
            subst he
            subst hk
            obtain ⟨pa, pc, hv⟩ := hL.row.val
            subst hv
            have c0 := hL.x.cell 0 rfl
            have SN := hidD (ST.out.below hL.bel (Nat.le_refl _))
            have cN := SN.out.cell l.length hnv
            have RN := hidD (SN.out.row l.length hnv hnw)
            obtain ⟨na, nc, hvn⟩ := RN.out.val
            rw [hvn] at cN RN
            have E0 := hidD (rEq (w := u1.drew) (hL.row.below (below_drewB _) (Nat.le_refl _)) (RN.out.below (below_drewB _) (Nat.le_refl _)) (by have := hL.wk.vol.few; omega))
            rw [hq] at cN E0 hvn
            have HVN := hidD hvn
            have hVW : Hid (V1' = (waysL fold S l)[l.length]) := by
              have := hL.wk.here.2.1
              rw [hdl] at this
              exact this.trans HW.out.symm
            have L2 := hidD hL
            clear hvn RN SN hL hE hd P' MU hdl hd1
            generalize hqv : V1'.length = q1 at *
            go_wp2_with fail
            go_region_held3 (fun v => v.cell? ⟨xb, 0, none⟩ = some (.slice pa q1 pc) ∧ v.cell? ⟨g, l.length, none⟩ = some (.slice na qn nc)) (go_keep) (first | (go_at_call 12; refine E0.out.mono ?_; rintro e u3 ⟨b, rfl, hbb, nn, rfl⟩; have hb3 : b = true := hbb.2 hVW.out; subst hb3; clear hbb; have L3 := hidD (L2.out.below ((below_drewB _).trans (below_drewNB _ nn))); generalize u1.drew.drewN nn = u4 at *; have c3 := L3.out.x.cell 0 rfl; have cN3 := cell_kept (L3.out.bel) ST.out.lt (ST.out.cell l.length hnv); rw [HVN.out] at cN3))
            clear c3 cN3 c0 cN E0
            go_wp2_with fail
            go_ret
            exact ⟨rfl, B2.out.trans (L3.out.bel.mono B2.out.size)⟩
end Go.Proofs.YtemkpollilhmjaaGreatDoor

