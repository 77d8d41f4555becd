/- The reference's bytes of one operation. -/
import Derived.Test.YtjaepomjdknieaaDoorM0
import Derived.Deep.RegionHeld
namespace Go.Proofs.YtjaepomjdknieaaDoor
open Go.RowKit
set_option linter.unusedVariables false
set_option linter.unusedSimpArgs false
set_option maxHeartbeats 4000000 in
set_option maxRecDepth 100000 in
theorem bytes_any (o : OpD) (hf : o.fit) (w : World) (k : Int) (hk0 : 1 ≤ k) (hk1 : k ≤ 7) :
    Calls Tryd.prog 40 #[.agg #[.int .i64 k, .string o.path, .string o.dest, .int .i64 o.id, .int .i64 o.size, .int .i64 o.mode]] w fun e w' => e = .returned (.string ⟨(b8 k :: tail8 o (needOf k.toNat)).toArray⟩) ∧ Below w.heap.size w w' := by
  obtain ⟨p1, p2, p3, p4, p5, p6, p7, p8⟩ := hf
  have hcv := conv1 k (by omega) (by omega)
  have hwr := wrap8_id k (by omega) (by omega)
  have t8a := text8_len _ p1
  have t8b := text8_len _ p2
  have t82 := two8_len
  go_enter Tryd.func40, Tryd.ntmps40
  go_upto_region 1 with fail
  go_cut [3] from 4 to 12 (fun s3 wx => s3 = .string ⟨(b8 k :: text8 o.path).toArray⟩ ∧ Below (w.heap.size + 1) (w.alloc (.cells #[.int .i64 k, .string o.path, .string o.dest, .int .i64 o.id, .int .i64 o.size, .int .i64 o.mode] 71)) wx)
  case first =>
    go_region_held (fun u => u.cell? ⟨w.heap.size, 0, none⟩ = some (.int .i64 k) ∧ u.cell? ⟨w.heap.size, 1, none⟩ = some (.string o.path)) (go_keep) (first | (go_at_call 65; refine (text_any _ _ p1).mono ?_; rintro e w' ⟨rfl, rfl⟩))
    all_goals
      go_wp2_with fail
      go_meet
      refine ⟨by rw [show ({ data := #[b8 k] } : ByteArray) = ⟨[b8 k].toArray⟩ from rfl, ba_app]; rfl, ?_⟩
      exact (((Below.refl _ _).alloc (by simp) _).alloc (by simp) _).drew
  case rest =>
    obtain ⟨rfl, hbx⟩ := hcut
    have hx : ∀ j, wc.cell? ⟨w.heap.size, j, none⟩ = (w.alloc (.cells #[.int .i64 k, .string o.path, .string o.dest, .int .i64 o.id, .int .i64 o.size, .int .i64 o.mode] 71)).cell? ⟨w.heap.size, j, none⟩ := fun j => hbx.cell (p := ⟨w.heap.size, j, none⟩) (Nat.lt_succ_self _)
    have HB : Hid (Below w.heap.size w wc) := ((Below.refl _ _).alloc (Nat.le_refl _) _).trans (hbx.mono (Nat.le_succ _))
    have hzc := HB.out.size
    have hzl : w.heap.size < wc.heap.size := by have := hbx.size; simp only [World.size_alloc] at this; omega
    have hzl1 : w.heap.size < wc.heap.size + 1 := by omega
    have hzl2 : w.heap.size < wc.heap.size + 1 + 1 := by omega
    have hzl3 : w.heap.size < wc.heap.size + 2 := by omega
    clear hbx hcv hwr
    have hcv := conv1 o.size p5 p6
    have hwr := wrap8_id o.size p5 p6
    rcases (by omega : k = 1 ∨ k = 2 ∨ k = 3 ∨ k = 4 ∨ k = 5 ∨ k = 6 ∨ k = 7) with h | h | h | h | h | h | h
    · have b1 : (k == 1) = true := by subst h; rfl
      have b4 : (k == 4) = false := by subst h; rfl
      have b5 : (k == 5) = false := by subst h; rfl
      have b6 : (k == 6) = false := by subst h; rfl
      have b7 : (k == 7) = false := by subst h; rfl
      have HK : Hid (k = 1) := h
      clear h
      go_wp2_with (go_at_call 39; refine (two_any _ _ p7 p8).mono ?_; rintro e w' ⟨rfl, rfl⟩)
      all_goals
        go_ret
        refine ⟨ret_str ?_, ?_⟩; rotate_left
        · first
            | exact HB.out
            | exact HB.out.alloc hzc _
            | exact ((HB.out.alloc hzc _).alloc (by simp only [World.size_alloc]; omega) _).drew
            | exact (((HB.out.alloc hzc _).alloc (by simp only [World.size_alloc]; omega) _).alloc (by simp only [World.size_alloc]; omega) _).drew
        rw [HK.out]
        (try rw [show ({ data := #[b8 o.size] } : ByteArray) = ⟨[b8 o.size].toArray⟩ from rfl])
        (try simp only [ba_app])
        simp [tail8, needOf, List.append_assoc]
    · have b1 : (k == 1) = false := by subst h; rfl
      have b4 : (k == 4) = false := by subst h; rfl
      have b5 : (k == 5) = false := by subst h; rfl
      have b6 : (k == 6) = false := by subst h; rfl
      have b7 : (k == 7) = false := by subst h; rfl
      have HK : Hid (k = 2) := h
      clear h
      go_wp2
      all_goals
        go_ret
        refine ⟨ret_str ?_, ?_⟩; rotate_left
        · first
            | exact HB.out
            | exact HB.out.alloc hzc _
            | exact ((HB.out.alloc hzc _).alloc (by simp only [World.size_alloc]; omega) _).drew
            | exact (((HB.out.alloc hzc _).alloc (by simp only [World.size_alloc]; omega) _).alloc (by simp only [World.size_alloc]; omega) _).drew
        rw [HK.out]
        (try rw [show ({ data := #[b8 o.size] } : ByteArray) = ⟨[b8 o.size].toArray⟩ from rfl])
        (try simp only [ba_app])
        simp [tail8, needOf, List.append_assoc]
    · have b1 : (k == 1) = false := by subst h; rfl
      have b4 : (k == 4) = false := by subst h; rfl
      have b5 : (k == 5) = false := by subst h; rfl
      have b6 : (k == 6) = false := by subst h; rfl
      have b7 : (k == 7) = false := by subst h; rfl
      have HK : Hid (k = 3) := h
      clear h
      go_wp2
      all_goals
        go_ret
        refine ⟨ret_str ?_, ?_⟩; rotate_left
        · first
            | exact HB.out
            | exact HB.out.alloc hzc _
            | exact ((HB.out.alloc hzc _).alloc (by simp only [World.size_alloc]; omega) _).drew
            | exact (((HB.out.alloc hzc _).alloc (by simp only [World.size_alloc]; omega) _).alloc (by simp only [World.size_alloc]; omega) _).drew
        rw [HK.out]
        (try rw [show ({ data := #[b8 o.size] } : ByteArray) = ⟨[b8 o.size].toArray⟩ from rfl])
        (try simp only [ba_app])
        simp [tail8, needOf, List.append_assoc]
    · have b1 : (k == 1) = false := by subst h; rfl
      have b4 : (k == 4) = true := by subst h; rfl
      have b5 : (k == 5) = false := by subst h; rfl
      have b6 : (k == 6) = false := by subst h; rfl
      have b7 : (k == 7) = false := by subst h; rfl
      have HK : Hid (k = 4) := h
      clear h
      have hBz : w.heap.size + 1 ≤ wc.heap.size := by omega
      have q1 : ∀ a j, (wc.alloc a).cell? ⟨w.heap.size, j, none⟩ = wc.cell? ⟨w.heap.size, j, none⟩ := fun a j => World.cell?_alloc_past _ _ _ hzl
      have q2 : ∀ a b j, ((wc.alloc a).alloc b).cell? ⟨w.heap.size, j, none⟩ = wc.cell? ⟨w.heap.size, j, none⟩ := fun a b j => (World.cell?_alloc_past _ _ _ (by simp only [World.size_alloc]; omega)).trans (q1 a j)
      have q3 : ∀ a b c j, (((wc.alloc a).alloc b).alloc c).cell? ⟨w.heap.size, j, none⟩ = wc.cell? ⟨w.heap.size, j, none⟩ := fun a b c j => (World.cell?_alloc_past _ _ _ (by simp only [World.size_alloc]; omega)).trans (q2 a b j)
      have s1 : ∀ c a, ((wc.alloc c).alloc a).cell? ⟨wc.heap.size, 0, none⟩ = (wc.alloc c).cell? ⟨wc.heap.size, 0, none⟩ := fun c a => World.cell?_alloc_past _ _ _ (by simp only [World.size_alloc]; omega)
      have s2 : ∀ c a b, (((wc.alloc c).alloc a).alloc b).cell? ⟨wc.heap.size, 0, none⟩ = (wc.alloc c).cell? ⟨wc.heap.size, 0, none⟩ := fun c a b => (World.cell?_alloc_past _ _ _ (by simp only [World.size_alloc]; omega)).trans (s1 c a)
      go_wp2
      go_region_held (fun u => u.cell? ⟨w.heap.size, 3, none⟩ = some (.int .i64 o.id) ∧ u.cell? ⟨w.heap.size, 4, none⟩ = some (.int .i64 o.size) ∧ u.cell? ⟨w.heap.size, 5, none⟩ = some (.int .i64 o.mode)) (go_keep) (first | (go_at_call 39; refine (two_any _ _ (by assumption) (by assumption)).mono ?_; rintro e w' ⟨rfl, rfl⟩))
      all_goals
        go_wp2
        go_ret
        refine ⟨ret_str ?_, ?_⟩; rotate_left
        · first
            | exact HB.out
            | exact HB.out.alloc hzc _
            | exact ((HB.out.alloc hzc _).alloc (by simp only [World.size_alloc]; omega) _).drew
            | exact (((HB.out.alloc hzc _).alloc (by simp only [World.size_alloc]; omega) _).alloc (by simp only [World.size_alloc]; omega) _).drew
        rw [HK.out]
        (try rw [show ({ data := #[b8 o.size] } : ByteArray) = ⟨[b8 o.size].toArray⟩ from rfl])
        (try simp only [ba_app])
        simp [tail8, needOf, List.append_assoc]
    · have b1 : (k == 1) = false := by subst h; rfl
      have b4 : (k == 4) = false := by subst h; rfl
      have b5 : (k == 5) = true := by subst h; rfl
      have b6 : (k == 6) = false := by subst h; rfl
      have b7 : (k == 7) = false := by subst h; rfl
      have HK : Hid (k = 5) := h
      clear h
      go_wp2
      go_region_held (fun u => u.cell? ⟨w.heap.size, 2, none⟩ = some (.string o.dest) ∧ u.cell? ⟨w.heap.size, 5, none⟩ = some (.int .i64 o.mode)) (go_keep) (first | (go_at_call 39; refine (two_any _ _ p7 p8).mono ?_; rintro e w' ⟨rfl, rfl⟩) | (go_at_call 65; refine (text_any _ _ p2).mono ?_; rintro e w' ⟨rfl, rfl⟩))
      all_goals
        go_wp2
        go_ret
        refine ⟨ret_str ?_, ?_⟩; rotate_left
        · first
            | exact HB.out
            | exact HB.out.alloc hzc _
            | exact ((HB.out.alloc hzc _).alloc (by simp only [World.size_alloc]; omega) _).drew
            | exact (((HB.out.alloc hzc _).alloc (by simp only [World.size_alloc]; omega) _).alloc (by simp only [World.size_alloc]; omega) _).drew
        rw [HK.out]
        (try rw [show ({ data := #[b8 o.size] } : ByteArray) = ⟨[b8 o.size].toArray⟩ from rfl])
        (try simp only [ba_app])
        simp [tail8, needOf, List.append_assoc]
    · have b1 : (k == 1) = false := by subst h; rfl
      have b4 : (k == 4) = false := by subst h; rfl
      have b5 : (k == 5) = false := by subst h; rfl
      have b6 : (k == 6) = true := by subst h; rfl
      have b7 : (k == 7) = false := by subst h; rfl
      have HK : Hid (k = 6) := h
      clear h
      go_wp2_with (go_at_call 65; refine (text_any _ _ p2).mono ?_; rintro e w' ⟨rfl, rfl⟩)
      all_goals
        go_ret
        refine ⟨ret_str ?_, ?_⟩; rotate_left
        · first
            | exact HB.out
            | exact HB.out.alloc hzc _
            | exact ((HB.out.alloc hzc _).alloc (by simp only [World.size_alloc]; omega) _).drew
            | exact (((HB.out.alloc hzc _).alloc (by simp only [World.size_alloc]; omega) _).alloc (by simp only [World.size_alloc]; omega) _).drew
        rw [HK.out]
        (try rw [show ({ data := #[b8 o.size] } : ByteArray) = ⟨[b8 o.size].toArray⟩ from rfl])
        (try simp only [ba_app])
        simp [tail8, needOf, List.append_assoc]
    · have b1 : (k == 1) = false := by subst h; rfl
      have b4 : (k == 4) = false := by subst h; rfl
      have b5 : (k == 5) = false := by subst h; rfl
      have b6 : (k == 6) = false := by subst h; rfl
      have b7 : (k == 7) = true := by subst h; rfl
      have HK : Hid (k = 7) := h
      clear h
      go_wp2_with (go_at_call 39; refine (two_any _ _ p7 p8).mono ?_; rintro e w' ⟨rfl, rfl⟩)
      all_goals
        go_ret
        refine ⟨ret_str ?_, ?_⟩; rotate_left
        · first
            | exact HB.out
            | exact HB.out.alloc hzc _
            | exact ((HB.out.alloc hzc _).alloc (by simp only [World.size_alloc]; omega) _).drew
            | exact (((HB.out.alloc hzc _).alloc (by simp only [World.size_alloc]; omega) _).alloc (by simp only [World.size_alloc]; omega) _).drew
        rw [HK.out]
        (try rw [show ({ data := #[b8 o.size] } : ByteArray) = ⟨[b8 o.size].toArray⟩ from rfl])
        (try simp only [ba_app])
        simp [tail8, needOf, List.append_assoc]
end Go.Proofs.YtjaepomjdknieaaDoor
