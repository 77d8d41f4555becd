/- The reference's Encode. -/
import Derived.Test.YtjaepomjdknieaaDoorH
import Derived.Test.YtjaepomjdknieaaDoorL
import Derived.Deep.RegionWith
import Derived.Deep.CutRange
namespace Go.Proofs.YtjaepomjdknieaaDoor
open Go.RowKit
set_option linter.unusedVariables false
set_option linter.unusedSimpArgs false

set_option maxHeartbeats 1000000 in
theorem two_any (n : Int) (w : World) (h0 : 0 ≤ n) (h1 : n ≤ 65535) :
    Calls Tryd.prog 39 #[.int .i64 n] w fun e w' => e = .returned (.string ⟨(two8 n).toArray⟩) ∧ w' = w.alloc (.cells #[.int .u8 (n / 256), .int .u8 (n % 256)] 5) := by
  have hcv : ∀ u : World, (∀ j (hj : j < (two8 n).length), u.cell? ((⟨w.heap.size, 0, none⟩ : Addr).add j) = some (.int .u8 ((two8 n)[j].toNat : Int))) → (convert 96 9 (.slice (some ⟨w.heap.size, 0, none⟩) 2 2)).run Tryd.prog u = .ok (.string ⟨(two8 n).toArray⟩) u := fun u hu =>
    run_convert_bytes_back u 96 9 5 ⟨w.heap.size, 0, none⟩ 2 (two8 n) Tryd.underlying96 Tryd.underlying5 Tryd.underlying9 hu
  have hcv2 : (convert 96 9 (.slice (some ⟨w.heap.size, 0, none⟩) 2 2)).run Tryd.prog (w.alloc (.cells #[.int .u8 (n / 256), .int .u8 (n % 256)] 5)) = .ok (.string ⟨(two8 n).toArray⟩) (w.alloc (.cells #[.int .u8 (n / 256), .int .u8 (n % 256)] 5)) := by
    refine hcv _ (fun j hj => ?_)
    rw [b8_cell (n / 256) (by omega) (by omega), b8_cell (n % 256) (by omega) (by omega)]
    match j, hj with
    | 0, _ => simp [Addr.add, two8]
    | 1, _ => simp [Addr.add, two8]
  clear hcv
  go_enter Tryd.func39, Tryd.ntmps39
  go_wp2
  go_ret
  exact ⟨rfl, rfl⟩

theorem ba_app (a b : List UInt8) : (⟨a.toArray⟩ : ByteArray) ++ ⟨b.toArray⟩ = ⟨(a ++ b).toArray⟩ := by
  apply ByteArray.ext; simp
theorem ba_str (a : List UInt8) (s : ByteArray) : (⟨a.toArray⟩ : ByteArray) ++ s = ⟨(a ++ s.data.toList).toArray⟩ := by
  apply ByteArray.ext; simp
theorem ret_str {a b : ByteArray} (h : a = b) : Ending.returned (.string a) = .returned (.string b) := by rw [h]
set_option maxHeartbeats 1000000 in
theorem text_any (s : ByteArray) (w : World) (h : s.size ≤ 255) :
    Calls Tryd.prog 65 #[.string s] w fun e w' => e = .returned (.string ⟨(text8 s).toArray⟩) ∧ w' = w.alloc (.cells #[.int .u8 s.size] 5) := by
  have hcv2 : (convert 96 9 (.slice (some ⟨w.heap.size, 0, none⟩) 1 1)).run Tryd.prog (w.alloc (.cells #[.int .u8 s.size] 5)) = .ok (.string ⟨[b8 s.size].toArray⟩) (w.alloc (.cells #[.int .u8 s.size] 5)) := by
    refine run_convert_bytes_back _ 96 9 5 ⟨w.heap.size, 0, none⟩ 1 [b8 s.size] Tryd.underlying96 Tryd.underlying5 Tryd.underlying9 (fun j hj => ?_)
    rw [b8_cell s.size (by omega) (by omega)]
    match j, hj with
    | 0, _ => simp [Addr.add]
  go_enter Tryd.func65, Tryd.ntmps65
  go_wp2
  go_ret
  refine ⟨ret_str ?_, rfl⟩
  rw [show ({ data := #[b8 s.size] } : ByteArray) = ⟨[b8 s.size].toArray⟩ from rfl, ba_str]; rfl

theorem wrap8_id (n : Int) (h0 : 0 ≤ n) (h1 : n ≤ 255) : IntKind.u8.wrap n = n := by
  simp [IntKind.wrap, IntKind.bits, IntKind.signed]; omega

theorem text8_len (s : ByteArray) (h : s.size ≤ 255) : (text8 s).length ≤ 256 := by
  have := lenD s; simp only [text8, List.length_cons]; omega
theorem two8_len (n : Int) : (two8 n).length = 2 := rfl

theorem conv1 (n : Int) (h0 : 0 ≤ n) (h1 : n ≤ 255) (u : World) (X : Nat) (hc : u.cell? ⟨X, 0, none⟩ = some (.int .u8 n)) : (convert 96 9 (.slice (some ⟨X, 0, none⟩) 1 1)).run Tryd.prog u = .ok (.string ⟨#[b8 n]⟩) u := by
  refine run_convert_bytes_back _ 96 9 5 ⟨X, 0, none⟩ 1 [b8 n] Tryd.underlying96 Tryd.underlying5 Tryd.underlying9 (fun j hj => ?_)
  rw [b8_cell n h0 h1] at hc
  match j, hj with
  | 0, _ => simpa [Addr.add] using hc

end Go.Proofs.YtjaepomjdknieaaDoor
