/- The program's Print. -/
import Derived.Test.YtjaepomjdknieaaDoorS3
import Derived.Test.YtjaepomjdknieaaDoorU0
import Derived.Test.YtjaepomjdknieaaDoorL
import Derived.Deep.RegionHeld
import Derived.Deep.CutRange
namespace Go.Proofs.YtjaepomjdknieaaDoor
open Go.RowKit
set_option linter.unusedVariables false

theorem LwAt.fresh (w : World) : LwAt w.heap.size w.heap.size [] (w.alloc (.cells #[.pointer none, .slice none 0 0] 108)) := Lib.fresh_isBuilder 108 5 w

theorem Hid.mk' {p : Prop} (h : p) : Hid p := h
theorem LwAt.drew {B b : Nat} {bs : List Value} {w : World} (h : LwAt B b bs w) : LwAt B b bs w.drew := h
theorem Gd.drew {w : World} (h : Gd w) : Gd w.drew := ⟨h.big, h.len, h.need, h.tab⟩

set_option maxHeartbeats 2000000 in
set_option maxRecDepth 100000 in
theorem print_yes (ba off cap : Nat) (l : List OpD) (w : World) (hg : Gd w) (hs : ∀ o ∈ l, o.small) (hb : ba < w.heap.size) (hc : OpsAt w ba off l) (hy : scriptB l = true) :
    Calls Tryd.prog 41 #[.slice (some ⟨ba, off, none⟩) l.length cap] w fun e w' => e = .returned (.tuple #[.string ⟨(prt8 l).toArray⟩, .int .i64 0]) ∧ Below w.heap.size w w' := by
  obtain ⟨h400, hok⟩ := script_ops l hy
  have hfit : ∀ o ∈ l, o.fit := fun o ho => (okOp_fit o (hok o ho)).1
  have HY : Hid (scriptB l = true) := hy
  clear hy
  go_enter Tryd.func41, Tryd.ntmps41
  go_wp2_with fail
  refine (isScript_any ba off cap l w hg (by omega) hs hb hc).mono ?_
  rintro e w1 ⟨rfl, hb1⟩
  rw [HY.out]
  have hz1 := hb1.size
  have HB2 : Hid (Below w.heap.size w (w1.alloc (.cells #[.pointer none, .slice none 0 0] 108))) := hb1.alloc hz1 _
  go_wp2_with fail
  go_loopw [14] (fun i wr => ∃ k : Nat, k ≤ l.length ∧ i = .int .i64 k ∧ LwAt w1.heap.size w1.heap.size (Lib.byteCells (lines8 l k)) wr ∧ Below w.heap.size w wr ∧ w1.heap.size < wr.heap.size ∧ (k = 0 → wr.heap[w1.heap.size]? = some (.cells #[.pointer none, .slice none 0 0] 108 (0, 0)))) (fun i _ => l.length - (intOf i).toNat)
  case atStart => exact ⟨0, Nat.zero_le _, rfl, LwAt.fresh w1, HB2.out, by simp, fun _ => heap_alloc_new w1 _⟩
  case round =>
    obtain ⟨k, hk, rfl, hlw, hbl, hzr, hfr⟩ := hrel
    clear HB2
    by_cases hlt : k < l.length
    · clear hfr
      have hcw := (hc.below hbl hb) k hlt
      have HS : Hid (lines8 l (k + 1) = lines8 l k ++ line8 l[k]) := lines8_succ l k hlt
      have hlen : (Lib.byteCells (lines8 l k)).length ≤ 300000 := by
        have := lines8_length l hfit k hk
        rw [Lib.byteCells_length]
        omega
      obtain ⟨hf, k1, k7⟩ := okOp_fit _ (hok _ (List.getElem_mem hlt))
      generalize l[k] = o at *
      obtain ⟨K, hK⟩ := Int.eq_ofNat_of_zero_le (by omega : 0 ≤ o.kind)
      have hK7 : K ≤ 7 := by omega
      have hK1 : 1 ≤ K := by omega
      have c0 := hcw 0 _ rfl
      have c1 := hcw 1 _ rfl
      have c2 := hcw 2 _ rfl
      have c3 := hcw 3 _ rfl
      have c4 := hcw 4 _ rfl
      have c5 := hcw 5 _ rfl
      simp only [Nat.add_zero] at c0
      clear hcw
      have hgr := hg.below hbl
      have hnw : ∀ ob, (wr.alloc ob).cell? ⟨0, K * 5, none⟩ = some (.string (needOf K).word) := fun ob => by
        have := (hgr.alloc ob).need K (by omega) 0 _ rfl
        rwa [Nat.add_zero] at this
      have hww := needWord_len K
      rw [hK] at c0
      have HK : Hid (o.kind = (K : Int)) := hK
      have HGR : Hid (Gd wr) := hgr
      have HLW : Hid (LwAt w1.heap.size w1.heap.size (Lib.byteCells (lines8 l k)) wr) := hlw
      clear hK hgr hlw
      go_upto_region 7 with fail
      go_cut [] from 18 to 26 (fun wx => LwAt w1.heap.size w1.heap.size (Lib.byteCells (lines8 l k ++ (needOf K).word.data.toList)) wx ∧ Below w.heap.size w wx ∧ wr.heap.size < wx.heap.size ∧ wx.heap[wr.heap.size]? = some (.cells #[.int .i64 (K : Int), .string o.path, .string o.dest, .int .i64 o.id, .int .i64 o.size, .int .i64 o.mode] 71 (0, 0)))
      case first =>
        go_region_held (fun u => u.cell? ⟨wr.heap.size, 0, none⟩ = some (.int .i64 (K : Int)) ∧ u.cell? ⟨0, K * 5, none⟩ = some (.string (needOf K).word)) (go_keep) (first | (go_at_call 66; refine (writeString_any w1.heap.size w1.heap.size (Lib.byteCells (lines8 l k)) (needOf K).word _ (HLW.out.alloc _).drew (by omega) (by omega) (by show w1.heap.size ≤ (wr.alloc _).heap.size; simp only [World.size_alloc]; omega)).mono ?_; rintro e w3 ⟨rfl, h3, hb3, hk3⟩; have hbox3 := hk3 wr.heap.size _ _ _ (by omega) (by decide) (heap_alloc_new wr _); have hx3 := (fun j => Lib.cell_of_heap hbox3 j); have hn3 := ((HGR.out.alloc _).drew.belowB (by have := hg.big; omega) hb3).need K (by omega) 0 _ rfl; rw [Nat.add_zero] at hn3))
        all_goals
          go_wp2_with fail
          go_meet
          have hz3 := hb3.size
          have hz3' : wr.heap.size + 1 ≤ w3.heap.size := by simpa using hz3
          exact ⟨by rw [byteCells_append]; exact h3.at, (hbl.alloc (by omega) _).drew.trans (hb3.mono hz1), by omega, hbox3⟩
      case rest =>
        obtain ⟨hlwx, hbx, hzx, hbox⟩ := hcut
        have hx := fun j => Lib.cell_of_heap hbox j
        have hgx := hg.below hbx
        have h8 := hg.big
        have wo := writeOpL_any o hf K HK.out hK1 hK7 (needOf K).word (needOf K).sp (needOf K).td (needOf K).fi (needOf K).mo w1.heap.size w1.heap.size _ wc hgx hlwx (by
          have h2 := needWord_len K
          rw [← lenD] at h2
          rw [Lib.byteCells_length] at hlen ⊢
          rw [List.length_append]; omega) (by omega) (by omega) (hgx.need K (by omega))
        rw [HK.out] at wo
        have WO := Hid.mk' wo
        have HBX : Hid (Below w.heap.size w wc) := hbx
        clear wo hlwx hbx hbox hgx HLW HGR hnw c0 c1 c2 c3 c4 c5
        go_wp2_with fail
        refine WO.out.mono ?_
        rintro e w4 ⟨rfl, hlw4, hbl4, hke4⟩
        have hz4 := hbl4.size
        go_wp2_with fail
        refine (writeByte_any w1.heap.size w1.heap.size _ 10 w4 hlw4 (by
          have h2 := needWord_len K
          have h3 := ltail8_length o ⟨(needOf K).word, (needOf K).sp, (needOf K).td, (needOf K).fi, (needOf K).mo⟩ hf
          rw [← lenD] at h2
          rw [List.length_append, ltail8_cells, Lib.byteCells_length, Lib.byteCells_length, List.length_append]
          rw [Lib.byteCells_length] at hlen
          omega) (by omega)).mono ?_
        rintro e w5 ⟨rfl, hlw5, hbl5, hke5⟩
        have hz5 := hbl5.size
        have HW5 : Hid (LwAt w1.heap.size w1.heap.size (Lib.byteCells (lines8 l (k + 1))) w5) := by
          show LwAt _ _ _ _
          have e2 : o.kind.toNat = K := by have := HK.out; omega
          have e3 : Lib.byteCells (lines8 l (k + 1)) = Lib.byteCells (lines8 l k ++ (needOf K).word.data.toList) ++ linTail o (needOf K) ++ [.int .u8 10] := by
            rw [HS.out, line8, e2, ltail8_cells]
            simp only [byteCells_append, List.append_assoc]
            rfl
          rw [e3]
          exact hlw5.at
        clear hlw5
        go_wp2
        exact ⟨⟨k + 1, by omega, by go_num, HW5.out, (HBX.out.trans (hbl4.mono hz1)).trans (hbl5.mono hz1), by omega, fun h => by omega⟩, by simp [intOf]; omega⟩
    · have hke : k = l.length := by omega
      subst hke
      have e1 : lines8 l l.length = prt8 l := by simp [lines8, prt8]
      rw [e1] at hlw
      have HLW : Hid (LwAt w1.heap.size w1.heap.size (Lib.byteCells (prt8 l)) wr) := hlw
      have HFR : Hid (l.length = 0 → wr.heap[w1.heap.size]? = some (.cells #[.pointer none, .slice none 0 0] 108 (0, 0))) := hfr
      have HBL : Hid (Below w.heap.size w wr) := hbl
      clear hlw hfr hbl e1
      go_wp2_with fail
      have hstr : Calls Tryd.prog 68 #[.pointer (some ⟨w1.heap.size, 0, none⟩)] wr fun e w' => e = .returned (.string ⟨(prt8 l).toArray⟩) ∧ Below w1.heap.size wr w' := by
        by_cases h0 : l.length = 0
        · have el : l = [] := List.eq_nil_of_length_eq_zero h0
          subst el
          exact string_nil w1.heap.size w1.heap.size _ wr (HFR.out rfl)
        · refine string_some w1.heap.size w1.heap.size (prt8 l) wr HLW.out ?_
          intro h
          cases l with
          | nil => exact h0 rfl
          | cons o l => simp [prt8, line8] at h
      refine hstr.mono ?_
      rintro e w5 ⟨rfl, hb5⟩
      go_wp2
      go_ret2
      exact ⟨rfl, HBL.out.trans (hb5.mono hz1)⟩

set_option maxHeartbeats 1000000 in
theorem print_no (ba off cap : Nat) (l : List OpD) (w : World) (hg : Gd w) (hl : l.length ≤ 2000000) (hs : ∀ o ∈ l, o.small) (hb : ba < w.heap.size) (hc : OpsAt w ba off l) (hn : scriptB l = false) :
    Calls Tryd.prog 41 #[.slice (some ⟨ba, off, none⟩) l.length cap] w fun e w' => e = .returned (.tuple #[.string ⟨#[]⟩, .int .i64 18]) ∧ Below w.heap.size w w' := by
  have HN : Hid (scriptB l = false) := hn
  clear hn
  go_enter Tryd.func41, Tryd.ntmps41
  go_wp2_with fail
  refine (isScript_any ba off cap l w hg hl hs hb hc).mono ?_
  rintro e w1 ⟨rfl, hb1⟩
  rw [HN.out]
  go_wp2
  go_ret2
  exact ⟨rfl, hb1⟩

theorem print_any (ba off cap : Nat) (l : List OpD) (w : World) (hg : Gd w) (hl : l.length ≤ 2000000) (hs : ∀ o ∈ l, o.small) (hb : ba < w.heap.size) (hc : OpsAt w ba off l) :
    Calls Tryd.prog 41 #[.slice (some ⟨ba, off, none⟩) l.length cap] w fun e w' => e = .returned (.tuple #[.string (prtS l), .int .i64 (encE l)]) ∧ Below w.heap.size w w' := by
  unfold prtS encE
  by_cases h : scriptB l = true
  · rw [if_pos h, if_pos h]
    exact print_yes ba off cap l w hg hs hb hc h
  · rw [if_neg h, if_neg h]
    exact print_no ba off cap l w hg hl hs hb hc (by simpa using h)

set_option maxHeartbeats 1000000 in
set_option maxRecDepth 100000 in
theorem print_nil (w : World) :
    Calls Tryd.prog 41 #[.slice none 0 0] w fun e w' => e = .returned (.tuple #[.string (prtS []), .int .i64 (encE [])]) ∧ Below w.heap.size w w' := by
  have e0 : prtS [] = ⟨#[]⟩ := by simp [prtS, scriptB, prt8]
  have e1 : encE [] = 0 := by simp [encE, scriptB]
  rw [e0, e1]
  clear e0 e1
  go_enter Tryd.func41, Tryd.ntmps41
  go_wp2_with fail
  refine (isScript_nil w).mono ?_
  rintro e w ⟨rfl, rfl⟩
  have HB : Hid (Below w.heap.size w (w.alloc (.cells #[.pointer none, .slice none 0 0] 108))) := (Below.refl _ _).alloc (Nat.le_refl _) _
  have ST := Hid.mk' (string_nil w.heap.size w.heap.size (.pointer none) (w.alloc (.cells #[.pointer none, .slice none 0 0] 108)) (heap_alloc_new w _))
  go_wp2_with fail
  refine wp_loop_rounds 1 ?_
  rw [rounds_succ]
  go_wp2_with fail
  refine ST.out.mono ?_
  rintro e w2 ⟨rfl, hb2⟩
  go_wp2
  go_ret2
  exact ⟨rfl, HB.out.trans hb2⟩

set_option maxHeartbeats 1000000 in
theorem facePrint_any (v : Value) (S : ByteArray) (E : Int) (w : World) (h : Calls Tryd.prog 41 #[v] w fun e w' => e = .returned (.tuple #[.string S, .int .i64 E]) ∧ Below w.heap.size w w') :
    Calls Tryd.prog 21 #[v] w fun e w' => e = .returned (.tuple #[.string S, .int .i64 E]) ∧ Below w.heap.size w w' := by
  have H : Hid (Calls Tryd.prog 41 #[v] w fun e w' => e = .returned (.tuple #[.string S, .int .i64 E]) ∧ Below w.heap.size w w') := h
  clear h
  go_enter Tryd.func21, Tryd.ntmps21
  go_wp2_with fail
  refine H.out.mono ?_
  rintro e w1 ⟨rfl, hb⟩
  go_wp2
  go_ret2
  exact ⟨rfl, hb⟩
end Go.Proofs.YtjaepomjdknieaaDoor
