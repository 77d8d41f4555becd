/- KW, KX, KY, KZ, PA: in one text. -/
import Derived.Test.YtemkpollilhmjaaGreatDoorY11
import Derived.Test.YtemkpollilhmjaaGreatDoorY17
import Derived.Test.YtemkpollilhmjaaGreatDoorY16
/- The law's own life: a swap is planned, mounted, worked; a content that lies nowhere is refused. -/
namespace Go.Proofs.YtemkpollilhmjaaGreatDoor
open Go.RowKit
set_option linter.unusedVariables false
set_option linter.unusedSimpArgs false

def swapD : List OpD := [⟨6, ⟨#[97]⟩, ⟨#[126, 48]⟩, 0, 0, 0⟩, ⟨6, ⟨#[98]⟩, ⟨#[97]⟩, 0, 0, 0⟩, ⟨6, ⟨#[126, 48]⟩, ⟨#[98]⟩, 0, 0, 0⟩]
theorem mnt_s : mountN false 100 sD = 0 := by kernel_rfl
theorem seq_s : seqL false 100 sD swapD 0 = (0, 3, tD) := by kernel_rfl
theorem try_s : (match tryP false 9223372036854775807 sD swapD with | .ok _ => true | .error _ => false) = true := by kernel_rfl
theorem held_s : heldF false sD = true := by kernel_rfl
theorem work_s {e k : Int} {V' : List EntD} {m' : Nat} (h : WorkS false 100 sD sD swapD 0 e k V' m') : e = 0 ∧ k = 3 ∧ V' = tD := by
  unfold WorkS at h
  have ht := try_s
  cases hx : tryP false 9223372036854775807 sD swapD with
  | error x => rw [hx] at ht; cases ht
  | ok x =>
    rw [hx] at h
    obtain ⟨d, hd, _, hn⟩ := h
    have hd0 : d = (0 : Nat) := by
      rcases hd with ⟨_, rfl⟩ | ⟨_, h0, _⟩ | ⟨hne, _⟩
      · rfl
      · exact absurd h0 (by decide)
      · exact absurd rfl hne
    obtain ⟨n, hk, hs, _⟩ := hn 0 hd0
    rw [List.drop_zero, seq_s] at hs
    simp only [Prod.mk.injEq] at hs
    obtain ⟨h1, h2, h3⟩ := hs
    exact ⟨h1.symm, by rw [hk, ← h2]; rfl, h3.symm⟩
theorem swapD_small : ∀ o ∈ swapD, o.small := by
  intro o ho
  simp only [swapD, List.mem_cons, List.not_mem_nil, or_false] at ho
  rcases ho with rfl | rfl | rfl <;> (unfold OpD.small; decide)
theorem ops_of {u : World} {b : Nat} (h : Blk u b 82 swapC) : OpsAt u b 0 swapD := by
  intro k hk j v hv
  have hk3 : k < 3 := hk
  match k, hk3 with
  | 0, _ =>
    refine h.cell (0 + 0 * 6 + j) ?_
    match j with
    | 0 => exact hv
    | 1 => exact hv
    | 2 => exact hv
    | 3 => exact hv
    | 4 => exact hv
    | 5 => exact hv
    | n + 6 => cases hv
  | 1, _ =>
    refine h.cell (0 + 1 * 6 + j) ?_
    match j with
    | 0 => exact hv
    | 1 => exact hv
    | 2 => exact hv
    | 3 => exact hv
    | 4 => exact hv
    | 5 => exact hv
    | n + 6 => cases hv
  | 2, _ =>
    refine h.cell (0 + 2 * 6 + j) ?_
    match j with
    | 0 => exact hv
    | 1 => exact hv
    | 2 => exact hv
    | 3 => exact hv
    | 4 => exact hv
    | 5 => exact hv
    | n + 6 => cases hv
theorem row_s {u : World} {b : Nat} (h : Blk u b 54 sC) : RowAt u (.slice (some ⟨b, 0, none⟩) 2 2) sD := RowAt.row b 0 2 sD h.lt (by decide) (by unfold maxLen; omega) (ents_of h)
theorem row_t {u : World} {b : Nat} (h : Blk u b 54 tC) : RowAt u (.slice (some ⟨b, 0, none⟩) 2 2) tD := RowAt.row b 0 2 tD h.lt (by decide) (by unfold maxLen; omega) (ents_of h)

set_option maxHeartbeats 8000000 in
set_option maxRecDepth 100000 in
theorem alive_any (w : World) (hg : Gd w) : Calls Tryz.prog 7 #[] w fun e w' => e = .returned (.bool true) ∧ Below w.heap.size w w' := by
  have HG := hidD hg
  have hbig := hg.big
  clear hg
  go_enter Tryz.func7, Tryz.ntmps7
  go_wp2_with fail
  refine (file_any _ _ _).mono ?_
  rintro e w1 ⟨rfl, hb1⟩
  have B1 := hidD hb1
  clear hb1
  go_wp2_with fail
  refine (file_any _ _ _).mono ?_
  rintro e w2 ⟨rfl, hb2⟩
  have B2 := hidD (B1.out.trans (hb2.mono B1.out.size))
  clear hb2 B1
  have BS := hidD (Blk.new w2 54 sC)
  have B3 := hidD (B2.out.trans ((box_below w2 sC.toArray 54).mono B2.out.size))
  go_wp2_with fail
  refine (file_any _ _ _).mono ?_
  rintro e w4 ⟨rfl, hb4⟩
  have BS4 := hidD (BS.out.below hb4)
  have B4 := hidD (B3.out.trans (hb4.mono B3.out.size))
  clear hb4 B2 B3 BS
  go_wp2_with fail
  refine (file_any _ _ _).mono ?_
  rintro e w5 ⟨rfl, hb5⟩
  have BS5 := hidD (BS4.out.below hb5)
  have B5 := hidD (B4.out.trans (hb5.mono B4.out.size))
  clear hb5 B4 BS4
  have BT := hidD (Blk.new w5 54 tC)
  have BS6 := hidD (BS5.out.below (box_below w5 tC.toArray 54))
  have B6 := hidD (B5.out.trans ((box_below w5 tC.toArray 54).mono B5.out.size))
  go_wp2_with fail
  refine (plan_swap BS6.out BT.out).mono ?_
  rintro e w7 ⟨ov, rfl, hov, hb7⟩
  obtain ⟨ga, ca, hga⟩ := row_form hov (by decide)
  subst hga
  have BS7 := hidD (BS6.out.below hb7)
  have BT7 := hidD (BT.out.below hb7)
  have BO7 := hidD (blk_of_row hov)
  have B7 := hidD (B6.out.trans (hb7.mono B6.out.size))
  clear hb7 hov B5 B6 BS5 BS6 BT
  go_wp2_with fail
  refine (cMount false (row_s BS7.out) ⟨by decide, sD_small⟩ 100 ⟨#[]⟩ (by decide)).mono ?_
  intro e w8 hm
  rw [CMnt, if_pos mnt_s] at hm
  obtain ⟨vb, v', rfl, hvb, vk, vr, hb8⟩ := hm
  have BS8 := hidD (BS7.out.below hb8)
  have BT8 := hidD (BT7.out.below hb8)
  have BO8 := hidD (BO7.out.below hb8)
  have B8 := hidD (B7.out.trans (hb8.mono B7.out.size))
  have VK := hidD vk
  have VR := hidD vr
  have hvb2 : 2 ≤ vb := by have := B7.out.size; omega
  have hbs := BS7.out.lt
  have hbt := BT7.out.lt
  have HVB := hidD hvb
  have hw7 := B7.out.size
  clear hb8 vk vr hvb B7 BS7 BT7 BO7
  go_wp2_with fail
  refine (cWork (m := 0) (S := sD) (l := swapD) VK.out hvb2 (RowAt.ofOwn VR.out) (held_vol held_s) (by decide) (by decide) (row_s BS8.out) ⟨by decide, sD_small⟩ (HG.out.below B8.out) (OpRow.row ga 0 ca swapD BO8.out.lt (ops_of BO8.out)) (by decide) swapD_small (Nat.zero_le _) 400 (by decide) (by decide)).mono ?_
  intro e w9 hA
  obtain ⟨e1, k1, m1, v1, V1, rfl, st, K1, said⟩ := hA
  obtain ⟨he, hk, hV⟩ := work_s said
  subst he
  subst hk
  subst hV
  have hne1 : some w2.heap.size ≠ some vb := by have := HVB.out; simp; omega
  have hne2 : some w5.heap.size ≠ some vb := by have := HVB.out; simp; omega
  have BS9 := hidD (BS8.out.kept st.gr hne1)
  have BT9 := hidD (BT8.out.kept st.gr hne2)
  have B9 := hidD (B8.out.grown st.gr B8.out.size (fun k e => by have := HVB.out; have := hbs; cases e; have := B8.out.size; omega))
  have VK9 := hidD st.vk
  have VR9 := hidD (st.rowAt (m0 := 0) VK.out (RowAt.ofOwn VR.out))
  clear st K1 said BS8 BT8 BO8 B8 VK VR hne1 hne2
  go_wp2_with fail
  refine (cTree VK9.out VR9.out (by decide)).mono ?_
  rintro e w10 ⟨tv, rfl, htv, hb10⟩
  have BS10 := hidD (BS9.out.below hb10)
  have BT10 := hidD (BT9.out.below hb10)
  have B10 := hidD (B9.out.trans (hb10.mono B9.out.size))
  obtain ⟨ta, tn, tc, hts⟩ := shape_of htv
  subst hts
  have TV := hidD (RowAt.ofOwn htv)
  clear hb10 htv BS9 BT9 B9 VK9 VR9
  go_wp2_with fail
  refine (rEq TV.out (row_t BT10.out) (by decide)).mono ?_
  rintro e w11 ⟨b, rfl, hbb, n, rfl⟩
  have hbt' : b = true := hbb.2 rfl
  subst hbt'
  clear hbb
  have BS11 := hidD (BS10.out.below (below_drewNB w10 n))
  have B11 := hidD (B10.out.trans ((below_drewNB w10 n).mono (Nat.le_refl _)))
  generalize w10.drewN n = w12 at *
  clear BS10 BT10 B10 TV
  go_wp2_with fail
  refine (file_any _ _ _).mono ?_
  rintro e w13 ⟨rfl, hb13⟩
  have BS13 := hidD (BS11.out.below hb13)
  have B13 := hidD (B11.out.trans (hb13.mono B11.out.size))
  clear hb13 BS11 B11
  have BX1 := hidD (box_below w13 cC.toArray 54)
  have BX2 := hidD (box_below (w13.alloc (.cells cC.toArray 54)) #[.int .i64 4] 3)
  have BC := hidD ((Blk.new w13 54 cC).below BX2.out)
  have BI := hidD (Blk.new (w13.alloc (.cells cC.toArray 54)) 3 [.int .i64 4])
  have BS14 := hidD ((BS13.out.below BX1.out).below BX2.out)
  have B14 := hidD ((B13.out.trans (BX1.out.mono B13.out.size)).trans (BX2.out.mono (Nat.le_trans B13.out.size BX1.out.size)))
  go_wp2_with fail
  have hz : (w13.alloc (.cells cC.toArray 54)).heap.size = w13.heap.size + 1 := by simp
  have HP := hidD (plan_store BS14.out BC.out BI.out)
  rw [hz] at HP
  refine HP.out.mono ?_
  rintro e w15 ⟨rfl, hb15⟩
  have B15 := hidD (B14.out.trans (hb15.mono B14.out.size))
  clear hb15 HP BS14 BC BI B14 BX1 BX2 BS13 B13 hz
  go_wp2_with fail
  go_ret
  exact ⟨rfl, B15.out⟩
end Go.Proofs.YtemkpollilhmjaaGreatDoor

/- What the laws of keeping lean on: the face's Try; a number picked; a tree may be mounted. -/
namespace Go.Proofs.YtemkpollilhmjaaGreatDoor
open Go.RowKit
set_option linter.unusedVariables false
set_option linter.unusedSimpArgs false

theorem pickK (c : Int) (n : Nat) (w : World) (hn : 0 < n) (hn2 : n ≤ 2000000) (h0 : -9223372036854775808 ≤ c) (h1 : c ≤ 9223372036854775807) :
    Calls Tryz.prog 10 #[.int .i64 c, .int .i64 n] w fun e w' => ∃ k : Nat, k < n ∧ e = .returned (.int .i64 k) ∧ w' = w := by
  have key : ∀ m : Int, 0 ≤ m → ∃ k : Nat, k < n ∧ m.tmod n = k := fun m hm => by
    obtain ⟨q, rfl⟩ := Int.eq_ofNat_of_zero_le hm
    exact ⟨q % n, Nat.mod_lt _ hn, by rw [Int.tmod_eq_emod_of_nonneg (by omega)]; simp⟩
  have hn0 : ((n : Int) == 0) = false := by simp; omega
  have hn3 : ¬ ((n : Int) = 0) := by omega
  by_cases hc : c < 0
  · obtain ⟨k, hk, hm⟩ := key (-(c + 1)) (by omega)
    go_enter Tryz.func10, Tryz.ntmps10
    go_wp2
    go_ret
    exact ⟨k, hk, rfl, rfl⟩
  · obtain ⟨k, hk, hm⟩ := key c (by omega)
    go_enter Tryz.func10, Tryz.ntmps10
    go_wp2
    go_ret
    exact ⟨k, hk, rfl, rfl⟩

def rM (x : Except (Int × Int) (List EntD × Int)) : List EntD := match x with | .error _ => [] | .ok (M, _) => M
def rN (x : Except (Int × Int) (List EntD × Int)) : Int := match x with | .error _ => 0 | .ok (_, n) => n
def rC (x : Except (Int × Int) (List EntD × Int)) : Int := match x with | .error (c, _) => c | .ok _ => 0
def rK (x : Except (Int × Int) (List EntD × Int)) : Int := match x with | .error (_, k) => k | .ok _ => 0
theorem TryA.one {w : World} {x : Except (Int × Int) (List EntD × Int)} {r : Ending} {w' : World} (h : TryA w x r w') : ∃ v, r = .returned (.tuple #[v, .int .i64 (rN x), .int .i64 (rC x), .int .i64 (rK x)]) ∧ w'.ownsRow w.heap.size 54 5 v (rM x).length (flatE (rM x)) ∧ Below w.heap.size w w' := by
  cases x with
  | error ck =>
    obtain ⟨c, k⟩ := ck
    exact ⟨_, h.1, World.ownsRow_nil _ _ _ _, h.2⟩
  | ok mn =>
    obtain ⟨M, n⟩ := mn
    exact h
set_option maxHeartbeats 1000000 in
theorem faceTry {w : World} {v1 v2 : Value} {fold : Bool} {x : Except (Int × Int) (List EntD × Int)} (h : Calls Tryz.prog 21 #[v1, .bool fold, v2] w fun r w' => TryA w x r w') :
    Calls Tryz.prog 13 #[v1, .bool fold, v2] w fun r w' => ∃ v, r = .returned (.tuple #[v, .int .i64 (rN x), .int .i64 (rC x), .int .i64 (rK x)]) ∧ w'.ownsRow w.heap.size 54 5 v (rM x).length (flatE (rM x)) ∧ Below w.heap.size w w' := by
  have H := hidD (h.mono (fun r w' hr => hr.one))
  clear h
  go_enter Tryz.func13, Tryz.ntmps13
  go_wp2_with fail
  refine H.out.mono ?_
  rintro e w1 ⟨v, rfl, ho, hb⟩
  have HO := hidD ho
  clear ho
  go_wp2
  refine bodyPost_ret (results_tmp4 rfl _ _ _) rfl ?_
  exact ⟨_, rfl, HO.out, hb⟩

theorem tree_held {fold : Bool} {l : List EntD} (h : treeF fold l = true) : heldF fold l = true := by
  have K := tree_vol h
  unfold heldF chkPH
  have hf := K.few
  rw [beq_iff_eq, if_neg (by omega), chkGoH_zero]
  intro k hk
  rw [chkAtH_zero]
  cases fold with
  | false =>
    have h' : (chkP l).1 = 0 := by simpa [treeF, treeB] using h
    unfold chkP at h'
    split at h'
    · cases h'
    · have := (chkGo_zero l l 0).1 h' k hk
      simp only [Nat.zero_add] at this ⊢
      unfold chkAt at this
      split at this
      · cases this
      · rename_i hp
        exact ⟨by unfold holdB; simp only [Bool.not_eq_false] at hp; rw [show l[k].pl = l[k].path.data.toList from rfl, hp]; rfl, this⟩
  | true =>
    have h' : (chkPT l).1 = 0 := by simpa [treeF, treeBT] using h
    unfold chkPT at h'
    split at h'
    · cases h'
    · have := (chkGoT_zero l l 0).1 h' k hk
      simp only [Nat.zero_add] at this ⊢
      unfold chkAtT at this
      split at this
      · cases this
      · rename_i hp
        exact ⟨by unfold holdB; simp only [Bool.not_eq_false] at hp; rw [show l[k].pl = l[k].path.data.toList from rfl, hp]; rfl, this⟩
theorem tree_mount {fold : Bool} {l : List EntD} (h : treeF fold l = true) : mountN fold 100000 l = 0 := by
  have hu := used_le (tree_vol h)
  unfold mountN
  rw [tree_held h, if_neg (by decide), if_neg (by omega)]
theorem try_tree {fold : Bool} {space : Int} {L : List EntD} {l : List OpD} {x : List EntD × Int} (h : tryP fold space L l = .ok x) : treeF fold L = true := by
  unfold tryP at h
  split at h
  · cases h
  · rename_i hh
    simpa using hh
end Go.Proofs.YtemkpollilhmjaaGreatDoor

/- The way of a script that goes: plain. -/
namespace Go.Proofs.YtemkpollilhmjaaGreatDoor
open Go.RowKit
set_option linter.unusedVariables false
set_option linter.unusedSimpArgs false

theorem try_way {fold : Bool} {S M : List EntD} {l : List OpD} {n : Int} : ∀ (r k : Nat) (need : Int) (i : Nat), k + r = l.length → tryL fold 9223372036854775807 (wayT fold S l k) need (l.drop k) i = .ok (M, n) → wayT fold S l l.length = M ∧ ∀ (j : Nat) (h : j < l.length), k ≤ j → doL fold 9223372036854775807 (wayT fold S l j) l[j] = .ok (wayT fold S l (j + 1)) := by
  intro r
  induction r with
  | zero =>
    intro k need i hk h
    have hk' : k = l.length := by omega
    subst hk'
    rw [List.drop_length, tryL] at h
    cases h
    exact ⟨rfl, fun j hj hkj => by omega⟩
  | succ r ih =>
    intro k need i hk h
    have hkl : k < l.length := by omega
    rw [List.drop_eq_getElem_cons hkl, tryL] at h
    cases hd : doL fold 9223372036854775807 (wayT fold S l k) l[k] with
    | error c => rw [hd] at h; cases h
    | ok L' =>
      rw [hd] at h
      have hw := wayT_step hkl hd
      rw [← hw] at h
      obtain ⟨h1, h2⟩ := ih (k + 1) _ _ (by omega) h
      refine ⟨h1, fun j hj hkj => ?_⟩
      by_cases e : j = k
      · subst e; rw [hd, hw]
      · exact h2 j hj (by omega)
theorem tryP_way {fold : Bool} {S M : List EntD} {l : List OpD} {n : Int} (h : tryP fold 9223372036854775807 S l = .ok (M, n)) : wayT fold S l l.length = M ∧ ∀ (j : Nat) (h : j < l.length), doL fold 9223372036854775807 (wayT fold S l j) l[j] = .ok (wayT fold S l (j + 1)) := by
  unfold tryP at h
  split at h
  · cases h
  · split at h
    · cases h
    · split at h
      · cases h
      · rename_i x hx
        cases h
        have := try_way (l := l) (S := S) l.length 0 _ _ (by omega) (by rw [List.drop_zero]; exact hx)
        exact ⟨this.1, fun j hj => this.2 j hj (Nat.zero_le _)⟩
theorem tryP_err0 {fold : Bool} {space : Int} {S : List EntD} {l : List OpD} {c k : Int} (h : tryP fold space S l = .error (c, k)) : c ≠ 0 := by
  unfold tryP at h
  split at h
  · cases h; decide
  · split at h
    · cases h; decide
    · split at h
      · rename_i c' k' he
        cases h
        exact try_err0 _ _ _ _ _ _ he
      · cases h
theorem no11 {fold : Bool} {S M V : List EntD} {l : List OpD} {n : Int} {m d : Nat} (h : tryP fold 9223372036854775807 S l = .ok (M, n)) (hv : WkV fold (wayT fold S l) l V m d) (hd : d < l.length) : doL fold 100000 V l[d] ≠ .error 11 := by
  obtain ⟨_, hV, _⟩ := hv.here
  have hs := (tryP_way h).2 d hd
  rw [← hV] at hs
  have hg := (try_ok h).2 l[d] (List.getElem_mem hd)
  rw [do_space (s2 := 9223372036854775807) hv.vol (okOp_good hg) (by decide) (by decide), hs]
  intro e
  cases e
/-- Work with budget enough brings the whole script about. -/
theorem work_all {fold : Bool} {S M V' : List EntD} {l : List OpD} {n : Int} {m d m' d' : Nat} {e k : Int} (h : tryP fold 9223372036854775807 S l = .ok (M, n)) (hv : WkV fold (wayT fold S l) l V' m' d') (hw : WorkE fold 100000 l V' m d m' d' (100 * ((l.length : Int) + 1)) e k) (hm : d ≤ m) : e = 0 ∧ k = l.length ∧ V' = M := by
  rcases hw with ⟨he, hk, hd⟩ | ⟨_, _, hmu⟩ | ⟨_, _, _, hlt, h11⟩
  · refine ⟨he, hk, ?_⟩
    rw [hv.here.2.1, hd]
    exact (tryP_way h).1
  · have h1 := hv.here.2.2
    have h2 : muW l m d ≤ 2 * (l.length : Int) + 2 := by
      unfold muW
      split <;> omega
    omega
  · exact absurd h11 (no11 h hv hlt)
/-- A volume just mounted stands at the beginning. -/
theorem WkV.begin {fold : Bool} {S : List EntD} {l : List OpD} (K : VolOk fold S) : WkV fold (wayT fold S l) l S 0 0 := ⟨K, Nat.zero_le _, .inl ⟨rfl, rfl⟩⟩
end Go.Proofs.YtemkpollilhmjaaGreatDoor

/- Two volumes side by side, each on the way of its script. -/
namespace Go.Proofs.YtemkpollilhmjaaGreatDoor
open Go.RowKit
set_option linter.unusedVariables false
set_option linter.unusedSimpArgs false

/-- A row of numbers. -/
inductive NumRow (w : World) : Value → List Int → Prop
  | nil : NumRow w (.slice none 0 0) []
  | row (b off cap : Nat) (ts : List Int) (hb : b < w.heap.size) (h : ∀ (k : Nat) (hk : k < ts.length), w.cell? ⟨b, off + k, none⟩ = some (.int .i64 ts[k])) : NumRow w (.slice (some ⟨b, off, none⟩) ts.length cap) ts
theorem NumRow.val {w : World} {v : Value} {ts : List Int} (h : NumRow w v ts) : ∃ a c, v = .slice a ts.length c := by
  cases h with
  | nil => exact ⟨_, _, rfl⟩
  | row b off cap ts hb h => exact ⟨_, _, rfl⟩
theorem NumRow.below {w w' : World} {v : Value} {ts : List Int} (h : NumRow w v ts) {B : Nat} (hb : Below B w w') (hB : w.heap.size ≤ B) : NumRow w' v ts := by
  cases h with
  | nil => exact .nil
  | row b off cap ts hlt h => exact .row b off cap ts (by have := hb.size; omega) (fun k hk => cell_kept hb (by omega) (h k hk))

/-- A volume of this space on the way of its script. -/
structure Ap (w3 u : World) (fold : Bool) (A : List EntD) (x : List OpD) (va : Nat) (v : Value) (V : List EntD) (m d : Nat) : Prop where
  ge : w3.heap.size ≤ va
  vk : Vk 64 u va v fold 100000 [.string (marksB m)]
  row : RowAt u v V
  wk : WkV fold (wayT fold A x) x V m d
theorem Ap.below {w3 u u' : World} {fold : Bool} {A : List EntD} {x : List OpD} {va : Nat} {v : Value} {V : List EntD} {m d : Nat} (h : Ap w3 u fold A x va v V m d) (hb : Below u.heap.size u u') : Ap w3 u' fold A x va v V m d :=
  ⟨h.ge, h.vk.below hb h.vk.lt, h.row.below hb (Nat.le_refl _), h.wk⟩
theorem Ap.other {w3 u u' : World} {fold fold2 : Bool} {A : List EntD} {x : List OpD} {va vb : Nat} {v v2 : Value} {V : List EntD} {m d m2 : Nat} {space : Int} (h : Ap w3 u fold A x va v V m d) (k : Vk 64 u vb v2 fold2 space [.string (marksB m2)]) (hne : va ≠ vb) (hg : u.grownBy u' (some vb)) : Ap w3 u' fold A x va v V m d :=
  ⟨h.ge, (hg.block va h.vk.lt (by simpa using hne)).trans h.vk, h.row.grown k (by simp) hg, h.wk⟩
theorem Ap.le {w3 u : World} {fold : Bool} {A : List EntD} {x : List OpD} {va : Nat} {v : Value} {V : List EntD} {m d : Nat} (h : Ap w3 u fold A x va v V m d) : d ≤ m := by
  rcases h.wk.at_ with ⟨h1, _⟩ | ⟨h1, _⟩ <;> omega
/-- A Work on such a volume. -/
theorem Ap.work {w3 u : World} {fold : Bool} {A M : List EntD} {x : List OpD} {n : Int} {va : Nat} {v av xv : Value} {V : List EntD} {m d : Nat} (h : Ap w3 u fold A x va v V m d) (hb : Below w3.heap.size w3 u) (hbig : 4 ≤ w3.heap.size) (hg : Gd w3) (ha : RowAt w3 av A) (sA : SmallL A) (ho : OpRow w3 xv x) (hl : x.length ≤ 2000000) (hos : ∀ o ∈ x, o.small) (hX : tryP fold 9223372036854775807 A x = .ok (M, n)) (b : Int) (hbl : -1000000000 ≤ b) (hb2 : b ≤ 9223372036854775807) :
    Calls Tryz.prog 16 #[.pointer (some ⟨va, 0, none⟩), av, xv, .int .i64 b] u fun r w' => ∃ (e k : Int) (v' : Value) (V' : List EntD) (m' d' : Nat), r = .returned (.tuple #[.int .i64 e, .int .i64 k]) ∧ Ap w3 w' fold A x va v' V' m' d' ∧ u.grownBy w' (some va) ∧ Below w3.heap.size w3 w' ∧ WorkE fold 100000 x V' m d m' d' b e k := by
  have := h.ge
  refine (cWorkG h.vk (by omega) h.row h.wk (by decide) (by decide) (ha.below hb (Nat.le_refl _)) sA (hg.below hb) (ho.below hb (Nat.le_refl _)) hl hos hX b hbl hb2).mono ?_
  rintro r w' ⟨e, k, m', d', v', V', rfl, st, wk, hd, hE⟩
  exact ⟨e, k, v', V', m', d', rfl, ⟨h.ge, st.vk, st.rowAt h.vk h.row, wk⟩, st.gr, hb.grown st.gr hb.size (fun q e => by cases e; exact h.ge), hE⟩
/-- Mount tells a pointer and an error, whatever they are. -/
theorem mount_any {w : World} {v : Value} {L : List EntD} (fold : Bool) (hr : RowAt w v L) (hs : SmallL L) : Calls Tryz.prog 15 #[v, .bool fold, .int .i64 100000, .string ⟨#[]⟩] w fun r w' => ∃ p n, r = .returned (.tuple #[.pointer p, .int .i64 n]) ∧ Below w.heap.size w w' := by
  refine (cMount fold hr hs 100000 ⟨#[]⟩ (by decide)).mono ?_
  intro r w' h
  unfold CMnt at h
  split at h
  · obtain ⟨vb, v', rfl, _, _, _, hb⟩ := h
    exact ⟨_, _, rfl, hb⟩
  · exact ⟨_, _, h.1, h.2⟩
theorem mount_tree {w w3 : World} {v : Value} {L : List EntD} {x : List OpD} {fold : Bool} (ht : treeF fold L = true) (hr : RowAt w v L) (hs : SmallL L) (h3 : w3.heap.size ≤ w.heap.size) : Calls Tryz.prog 15 #[v, .bool fold, .int .i64 100000, .string ⟨#[]⟩] w fun r w' => ∃ va v', r = .returned (.tuple #[.pointer (some ⟨va, 0, none⟩), .int .i64 0]) ∧ w.heap.size ≤ va ∧ Ap w3 w' fold L x va v' L 0 0 ∧ Below w.heap.size w w' := by
  refine (cMount fold hr hs 100000 ⟨#[]⟩ (by decide)).mono ?_
  intro r w' h
  rw [CMnt, if_pos (tree_mount ht)] at h
  obtain ⟨vb, v', rfl, hge, vk, vr, hb⟩ := h
  exact ⟨vb, v', rfl, hge, ⟨Nat.le_trans h3 hge, vk, RowAt.ofOwn vr, WkV.begin (tree_vol ht)⟩, hb⟩
end Go.Proofs.YtemkpollilhmjaaGreatDoor

/- The law Apart: two volumes that are worked in turns. -/
namespace Go.Proofs.YtemkpollilhmjaaGreatDoor
open Go.RowKit
set_option linter.unusedVariables false
set_option linter.unusedSimpArgs false

theorem NumRow.form {w : World} {v : Value} {ts : List Int} (h : NumRow w v ts) (hn : 0 < ts.length) : ∃ b off cap, v = .slice (some ⟨b, off, none⟩) ts.length cap ∧ b < w.heap.size ∧ ∀ (k : Nat) (hk : k < ts.length), w.cell? ⟨b, off + k, none⟩ = some (.int .i64 ts[k]) := by
  cases h with
  | nil => simp at hn
  | row b off cap ts hb h => exact ⟨b, off, cap, rfl, hb, h⟩

set_option maxHeartbeats 8000000 in
set_option maxRecDepth 100000 in
theorem apart_any (a b xv yv tv : Value) (fold : Bool) (A B : List EntD) (X Y : List OpD) (ts : List Int) (w : World) (hg : Gd w) (ha : RowAt w a A) (hb : RowAt w b B) (hx : OpRow w xv X) (hy : OpRow w yv Y) (ht : NumRow w tv ts) (sA : SmallL A) (sB : SmallL B) (lX : X.length ≤ 2000000) (lY : Y.length ≤ 2000000) (oX : ∀ o ∈ X, o.small) (oY : ∀ o ∈ Y, o.small) (lt : ts.length ≤ 2000000) (bt : ∀ t ∈ ts, -9223372036854775808 ≤ t ∧ t ≤ 9223372036854775807) :
    Calls Tryz.prog 6 #[a, b, .bool fold, xv, yv, tv] w fun e w' => e = .returned (.bool true) ∧ Below w.heap.size w w' := by
  have HA := hidD ha
  have HB := hidD hb
  have HX := hidD hx
  have HY := hidD hy
  have HT := hidD ht
  have HSA := hidD sA
  have HSB := hidD sB
  have HOX := hidD oX
  have HOY := hidD oY
  have HG := hidD hg
  have HBT := hidD bt
  have hbig := hg.big
  obtain ⟨aa, ac, rfl⟩ := ha.val
  obtain ⟨ba, bc, rfl⟩ := hb.val
  obtain ⟨xa, xc, rfl⟩ := hx.val
  obtain ⟨ya, yc, rfl⟩ := hy.val
  obtain ⟨ta, tc, rfl⟩ := ht.val
  clear ha hb hx hy ht sA sB oX oY hg bt
  go_enter Tryz.func6, Tryz.ntmps6
  go_wp2_with fail
  refine (alive_any _ HG.out).mono ?_
  rintro e w1 ⟨rfl, hb1⟩
  have B1 := hidD hb1
  clear hb1
  go_wp2_with fail
  refine (faceTry (vTry fold (HA.out.below B1.out (Nat.le_refl _)) HSA.out (HG.out.below B1.out) (HX.out.below B1.out (Nat.le_refl _)) lX HOX.out _ rfl)).mono ?_
  rintro e w2 ⟨v2, rfl, ho2, hb2⟩
  obtain ⟨a2, n2, c2, hv2⟩ := shape_of ho2
  subst hv2
  have B2 := hidD (B1.out.trans (hb2.mono B1.out.size))
  have R2 := hidD (RowAt.ofOwn ho2)
  clear ho2 hb2 B1
  go_wp2_with fail
  refine (faceTry (vTry (!fold) (HB.out.below B2.out (Nat.le_refl _)) HSB.out (HG.out.below B2.out) (HY.out.below B2.out (Nat.le_refl _)) lY HOY.out _ rfl)).mono ?_
  rintro e w3 ⟨v3, rfl, ho3, hb3⟩
  obtain ⟨a3, n3, c3, hv3⟩ := shape_of ho3
  subst hv3
  have B3 := hidD (B2.out.trans (hb3.mono B2.out.size))
  have R3a := hidD (R2.out.below hb3 (Nat.le_refl _))
  have R3 := hidD (RowAt.ofOwn ho3)
  have A3 := hidD (HA.out.below B3.out (Nat.le_refl _))
  have BB3 := hidD (HB.out.below B3.out (Nat.le_refl _))
  have X3 := hidD (HX.out.below B3.out (Nat.le_refl _))
  have Y3 := hidD (HY.out.below B3.out (Nat.le_refl _))
  have T3 := hidD (HT.out.below B3.out (Nat.le_refl _))
  have G3 := hidD (HG.out.below B3.out)
  have hbig3 := G3.out.big
  clear ho3 hb3 B2 R2 HA HB HX HY HT HG hbig
  cases hX1 : tryP fold 9223372036854775807 A X with
  | error ck =>
    obtain ⟨c, k⟩ := ck
    have hc := tryP_err0 hX1
    have hc2 : (c == 0) = false := by simpa using hc
    clear hX1 R3a R3
    generalize rN (tryP (!fold) 9223372036854775807 B Y) = z1
    generalize rC (tryP (!fold) 9223372036854775807 B Y) = z2
    generalize rK (tryP (!fold) 9223372036854775807 B Y) = z3
    simp only [rC, rN, rK]
    go_wp2_with fail
    refine (mount_any fold A3.out HSA.out).mono ?_
    rintro e w4 ⟨p4, n4, rfl, hb4⟩
    have B4 := hidD hb4
    clear hb4
    go_wp2_with fail
    refine (mount_any (!fold) (BB3.out.below B4.out (Nat.le_refl _)) HSB.out).mono ?_
    rintro e w5 ⟨p5, n5, rfl, hb5⟩
    have B5 := hidD ((B3.out.trans (B4.out.mono B3.out.size)).trans (hb5.mono (Nat.le_trans B3.out.size B4.out.size)))
    clear hb5
    go_wp2_with fail
    go_ret
    exact ⟨rfl, B5.out⟩
  | ok Mn =>
    obtain ⟨M1, N1⟩ := Mn
    cases hX2 : tryP (!fold) 9223372036854775807 B Y with
    | error ck =>
      obtain ⟨c, k⟩ := ck
      have hc := tryP_err0 hX2
      have hc2 : (c == 0) = false := by simpa using hc
      clear hX1 hX2 R3a R3
      simp only [rC, rN, rK]
      go_wp2_with fail
      refine (mount_any fold A3.out HSA.out).mono ?_
      rintro e w4 ⟨p4, n4, rfl, hb4⟩
      have B4 := hidD hb4
      clear hb4
      go_wp2_with fail
      refine (mount_any (!fold) (BB3.out.below B4.out (Nat.le_refl _)) HSB.out).mono ?_
      rintro e w5 ⟨p5, n5, rfl, hb5⟩
      have B5 := hidD ((B3.out.trans (B4.out.mono B3.out.size)).trans (hb5.mono (Nat.le_trans B3.out.size B4.out.size)))
      clear hb5
      go_wp2_with fail
      go_ret
      exact ⟨rfl, B5.out⟩
    | ok Mn2 =>
      obtain ⟨M2, N2⟩ := Mn2
      rw [hX1] at R3a
      rw [hX2] at R3
      simp only [rC, rN, rK, rM] at R3a R3 ⊢
      have H1 := hidD hX1
      have H2 := hidD hX2
      clear hX1 hX2
      go_wp2_with fail
      refine (mount_tree (w3 := w3) (x := X) (try_tree H1.out) A3.out HSA.out (Nat.le_refl _)).mono ?_
      rintro e w4 ⟨va, v4, rfl, hva, ap, hb4⟩
      have P4 := hidD ap
      have B4 := hidD hb4
      have hlt4 := ap.vk.lt
      clear ap hb4
      go_wp2_with fail
      refine (mount_tree (w3 := w3) (x := Y) (try_tree H2.out) (BB3.out.below B4.out (Nat.le_refl _)) HSB.out B4.out.size).mono ?_
      rintro e w5 ⟨vb, v5, rfl, hvb, ap, hb5⟩
      have P5 := hidD (P4.out.below hb5)
      have Q5 := hidD ap
      have B5 := hidD (B4.out.trans (hb5.mono B4.out.size))
      have hne : va ≠ vb := by omega
      clear ap hb5 P4 B4 hva hvb hlt4
      go_wp2_with fail
      go_loopw [26] (fun iv wr => ∃ (i : Nat) (v1 : Value) (V1 : List EntD) (m1 d1 : Nat) (v2 : Value) (V2 : List EntD) (m2 d2 : Nat), i ≤ ts.length ∧ iv = .int .i64 i ∧ Hid (Ap w3 wr fold A X va v1 V1 m1 d1) ∧ Hid (Ap w3 wr (!fold) B Y vb v2 V2 m2 d2) ∧ Hid (Below w3.heap.size w3 wr)) (fun iv _ => ts.length - (intOf iv).toNat)
      case atStart => exact ⟨0, _, _, _, _, _, _, _, _, Nat.zero_le _, rfl, P5, Q5, B5⟩
      case round =>
        obtain ⟨i, v1, V1, m1, d1, v2, V2, m2, d2, hi, rfl, P, Q, BW⟩ := hrel
        clear P5 Q5 B5
        by_cases hlt : i < ts.length
        · obtain ⟨tb, toff, tcap, hv, htb, hcell⟩ := T3.out.form (by omega)
          cases hv
          have hj : ∃ j : Nat, (ts.length : Int) - 1 - i = j ∧ j < ts.length := ⟨ts.length - 1 - i, by omega, by omega⟩
          obtain ⟨j, hjj, hjl⟩ := hj
          have cI := cell_kept BW.out htb (hcell i hlt)
          have bI := HBT.out ts[i] (List.getElem_mem hlt)
          have bJ := HBT.out ts[j] (List.getElem_mem hjl)
          have CJ := hidD (hcell j hjl)
          clear hcell
          generalize ts[i] = t1 at *
          generalize ts[j] = t2 at *
          go_wp2_with fail
          refine (pickK t1 40 _ (by decide) (by decide) bI.1 bI.2).mono ?_
          rintro e wz ⟨k1, hk1, rfl, hwz⟩; rw [hwz]; clear hwz wz
          go_wp2_with fail
          refine (P.out.work BW.out hbig3 G3.out A3.out HSA.out X3.out lX HOX.out H1.out k1 (by omega) (by omega)).mono ?_
          rintro e u1 ⟨e1, k1', v1', V1', m1', d1', rfl, ap, gr, bel, _⟩
          have P1 := hidD ap
          have Q1 := hidD (Q.out.other P.out.vk (fun e => hne e.symm) gr)
          have B1' := hidD bel
          have cJ := cell_kept bel htb CJ.out
          clear ap gr bel P Q BW cI
          go_wp2_with fail
          refine (pickK t2 30 _ (by decide) (by decide) bJ.1 bJ.2).mono ?_
          rintro e wz ⟨k2, hk2, rfl, hwz⟩; rw [hwz]; clear hwz wz
          go_wp2_with fail
          refine (Q1.out.work B1'.out hbig3 G3.out BB3.out HSB.out Y3.out lY HOY.out H2.out k2 (by omega) (by omega)).mono ?_
          rintro e u2 ⟨e2, k2', v2', V2', m2', d2', rfl, ap, gr, bel, _⟩
          have Q2 := hidD ap
          have P2 := hidD (P1.out.other Q1.out.vk hne gr)
          have B2' := hidD bel
          clear ap gr bel P1 Q1 B1' cJ CJ
          go_wp2_with fail
          exact ⟨⟨i + 1, _, _, _, _, _, _, _, _, by omega, by go_num, P2, Q2, B2'⟩, by simp [intOf]; omega⟩
        · have hie : i = ts.length := by omega
          subst hie
          go_wp2_with fail
          refine (P.out.work BW.out hbig3 G3.out A3.out HSA.out X3.out lX HOX.out H1.out (100 * ((X.length : Int) + 1)) (by omega) (by omega)).mono ?_
          rintro e u1 ⟨e1, k1', v1', V1', m1', d1', rfl, ap, gr, bel, hE⟩
          obtain ⟨rfl, rfl, rfl⟩ := work_all H1.out ap.wk hE P.out.le
          have P1 := hidD ap
          have Q1 := hidD (Q.out.other P.out.vk (fun e => hne e.symm) gr)
          have B1' := hidD bel
          clear ap gr bel P Q BW hE
          go_wp2_with fail
          refine (Q1.out.work B1'.out hbig3 G3.out BB3.out HSB.out Y3.out lY HOY.out H2.out (100 * ((Y.length : Int) + 1)) (by omega) (by omega)).mono ?_
          rintro e u2 ⟨e2, k2', v2', V2', m2', d2', rfl, ap, gr, bel, hE⟩
          obtain ⟨rfl, rfl, rfl⟩ := work_all H2.out ap.wk hE Q1.out.le
          have Q2 := hidD ap
          have P2 := hidD (P1.out.other Q1.out.vk hne gr)
          have B2' := hidD bel
          clear ap gr bel P1 Q1 B1' hE
          go_wp2_with fail
          refine (cTree P2.out.vk P2.out.row (by have := P2.out.wk.vol.few; omega)).mono ?_
          rintro e u3 ⟨tv1, rfl, ho, hb⟩
          obtain ⟨q1, q2, q3, hq⟩ := shape_of ho
          subst hq
          have B3' := hidD (B2'.out.trans (hb.mono B2'.out.size))
          have Q3 := hidD (Q2.out.below hb)
          have TV := hidD (RowAt.ofOwn ho)
          have few1 := P2.out.wk.vol.few
          clear ho hb B2' P2 Q2
          go_wp2_with fail
          refine (rEq TV.out (R3a.out.below B3'.out (Nat.le_refl _)) (by omega)).mono ?_
          rintro e u4 ⟨b4, rfl, hbb, nn, rfl⟩
          have hb4 : b4 = true := hbb.2 rfl
          subst hb4
          clear hbb
          have B4' := hidD (B3'.out.trans ((below_drewNB u3 nn).mono (Nat.le_refl _)))
          have Q4 := hidD (Q3.out.below (below_drewNB u3 nn))
          generalize u3.drewN nn = u5 at *
          clear B3' Q3 TV
          go_wp2_with fail
          refine (cTree Q4.out.vk Q4.out.row (by have := Q4.out.wk.vol.few; omega)).mono ?_
          rintro e u6 ⟨tv2, rfl, ho, hb⟩
          obtain ⟨q4, q5, q6, hq⟩ := shape_of ho
          subst hq
          have B6' := hidD (B4'.out.trans (hb.mono B4'.out.size))
          have TV := hidD (RowAt.ofOwn ho)
          have few2 := Q4.out.wk.vol.few
          clear ho hb B4' Q4
          go_wp2_with fail
          refine (rEq TV.out (R3.out.below B6'.out (Nat.le_refl _)) (by omega)).mono ?_
          rintro e u7 ⟨b7, rfl, hbb, nn, rfl⟩
          have hb7 : b7 = true := hbb.2 rfl
          subst hb7
          clear hbb
          have B7' := hidD (B3.out.trans ((B6'.out.trans ((below_drewNB u6 nn).mono (Nat.le_refl _))).mono B3.out.size))
          generalize u6.drewN nn = u8 at *
          clear B6' TV
          go_wp2_with fail
          go_ret
          exact ⟨rfl, B7'.out⟩
end Go.Proofs.YtemkpollilhmjaaGreatDoor

