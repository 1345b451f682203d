/- The reference's test of the shape: what is refused at once, and items that hold no items. -/
import Derived.Test.YtmhgpdfllpgjpaaDoorRef10G
namespace Go.Proofs.YtmhgpdfllpgjpaaDoor
open Go.RowKit
set_option linter.unusedVariables false
set_option linter.unusedSimpArgs false

set_option maxHeartbeats 2000000 in
set_option maxRecDepth 100000 in
theorem sbad_lo (w : World) (kd nm : Int) (A K : Option Addr) (n c m d : Nat) (hn : n ≤ 1000000000000) (hm : m ≤ 1000000000000) (h : kd < 0) :
    Calls Tryd.prog 39 #[.agg #[.int .i64 kd, .int .u64 nm, .slice A n c, .slice K m d]] w (ShapeP false w) := by
  go_enter Tryd.func39, Tryd.ntmps39
  go_wp2_with fail
  go_ret
  exact ⟨rfl, past_alloc8 _ _⟩

set_option maxHeartbeats 2000000 in
set_option maxRecDepth 100000 in
theorem sbad_hi (w : World) (kd nm : Int) (A K : Option Addr) (n c m d : Nat) (hn : n ≤ 1000000000000) (hm : m ≤ 1000000000000) (h : 5 < kd) :
    Calls Tryd.prog 39 #[.agg #[.int .i64 kd, .int .u64 nm, .slice A n c, .slice K m d]] w (ShapeP false w) := by
  have h0 : ¬ kd < 0 := by omega
  go_enter Tryd.func39, Tryd.ntmps39
  go_wp2_with fail
  go_ret
  exact ⟨rfl, past_alloc8 _ _⟩

set_option maxHeartbeats 2000000 in
set_option maxRecDepth 100000 in
theorem sbad_n0 (w : World) (kd nm : Int) (A K : Option Addr) (n c m d : Nat) (hn : n ≤ 1000000000000) (hm : m ≤ 1000000000000) (h : 0 < n) :
    Calls Tryd.prog 39 #[.agg #[.int .i64 0, .int .u64 nm, .slice A n c, .slice K m d]] w (ShapeP false w) := by
  have h2 : (0 : Int) < (n : Int) := by omega
  go_enter Tryd.func39, Tryd.ntmps39
  go_wp2_with fail
  go_ret
  exact ⟨rfl, past_alloc8 _ _⟩

set_option maxHeartbeats 2000000 in
set_option maxRecDepth 100000 in
theorem sbad_m0 (w : World) (kd nm : Int) (A K : Option Addr) (n c m d : Nat) (hn : n ≤ 1000000000000) (hm : m ≤ 1000000000000) (h : 0 < m) :
    Calls Tryd.prog 39 #[.agg #[.int .i64 0, .int .u64 nm, .slice A 0 c, .slice K m d]] w (ShapeP false w) := by
  have h2 : (0 : Int) < (m : Int) := by omega
  go_enter Tryd.func39, Tryd.ntmps39
  go_wp2_with fail
  go_ret
  exact ⟨rfl, past_alloc8 _ _⟩

set_option maxHeartbeats 2000000 in
set_option maxRecDepth 100000 in
theorem sbad_n1 (w : World) (kd nm : Int) (A K : Option Addr) (n c m d : Nat) (hn : n ≤ 1000000000000) (hm : m ≤ 1000000000000) (h : 0 < n) :
    Calls Tryd.prog 39 #[.agg #[.int .i64 1, .int .u64 nm, .slice A n c, .slice K m d]] w (ShapeP false w) := by
  have h2 : (0 : Int) < (n : Int) := by omega
  go_enter Tryd.func39, Tryd.ntmps39
  go_wp2_with fail
  go_ret
  exact ⟨rfl, past_alloc8 _ _⟩

set_option maxHeartbeats 2000000 in
set_option maxRecDepth 100000 in
theorem sbad_m1 (w : World) (kd nm : Int) (A K : Option Addr) (n c m d : Nat) (hn : n ≤ 1000000000000) (hm : m ≤ 1000000000000) (h : 0 < m) :
    Calls Tryd.prog 39 #[.agg #[.int .i64 1, .int .u64 nm, .slice A 0 c, .slice K m d]] w (ShapeP false w) := by
  have h2 : (0 : Int) < (m : Int) := by omega
  go_enter Tryd.func39, Tryd.ntmps39
  go_wp2_with fail
  go_ret
  exact ⟨rfl, past_alloc8 _ _⟩

set_option maxHeartbeats 2000000 in
set_option maxRecDepth 100000 in
theorem sbad_u2 (w : World) (kd nm : Int) (A K : Option Addr) (n c m d : Nat) (hn : n ≤ 1000000000000) (hm : m ≤ 1000000000000) (h : 0 < nm) :
    Calls Tryd.prog 39 #[.agg #[.int .i64 2, .int .u64 nm, .slice A n c, .slice K m d]] w (ShapeP false w) := by
  go_enter Tryd.func39, Tryd.ntmps39
  go_wp2_with fail
  go_ret
  exact ⟨rfl, past_alloc8 _ _⟩

set_option maxHeartbeats 2000000 in
set_option maxRecDepth 100000 in
theorem sbad_m2 (w : World) (kd nm : Int) (A K : Option Addr) (n c m d : Nat) (hn : n ≤ 1000000000000) (hm : m ≤ 1000000000000) (h : 0 < m) :
    Calls Tryd.prog 39 #[.agg #[.int .i64 2, .int .u64 0, .slice A n c, .slice K m d]] w (ShapeP false w) := by
  have h2 : (0 : Int) < (m : Int) := by omega
  go_enter Tryd.func39, Tryd.ntmps39
  go_wp2_with fail
  go_ret
  exact ⟨rfl, past_alloc8 _ _⟩

set_option maxHeartbeats 2000000 in
set_option maxRecDepth 100000 in
theorem sbad_u3 (w : World) (kd nm : Int) (A K : Option Addr) (n c m d : Nat) (hn : n ≤ 1000000000000) (hm : m ≤ 1000000000000) (h : 0 < nm) :
    Calls Tryd.prog 39 #[.agg #[.int .i64 3, .int .u64 nm, .slice A n c, .slice K m d]] w (ShapeP false w) := by
  go_enter Tryd.func39, Tryd.ntmps39
  go_wp2_with fail
  go_ret
  exact ⟨rfl, past_alloc8 _ _⟩

set_option maxHeartbeats 2000000 in
set_option maxRecDepth 100000 in
theorem sbad_m3 (w : World) (kd nm : Int) (A K : Option Addr) (n c m d : Nat) (hn : n ≤ 1000000000000) (hm : m ≤ 1000000000000) (h : 0 < m) :
    Calls Tryd.prog 39 #[.agg #[.int .i64 3, .int .u64 0, .slice A n c, .slice K m d]] w (ShapeP false w) := by
  have h2 : (0 : Int) < (m : Int) := by omega
  go_enter Tryd.func39, Tryd.ntmps39
  go_wp2_with fail
  go_ret
  exact ⟨rfl, past_alloc8 _ _⟩

set_option maxHeartbeats 2000000 in
set_option maxRecDepth 100000 in
theorem sbad_u4 (w : World) (kd nm : Int) (A K : Option Addr) (n c m d : Nat) (hn : n ≤ 1000000000000) (hm : m ≤ 1000000000000) (h : 0 < nm) :
    Calls Tryd.prog 39 #[.agg #[.int .i64 4, .int .u64 nm, .slice A n c, .slice K m d]] w (ShapeP false w) := by
  go_enter Tryd.func39, Tryd.ntmps39
  go_wp2_with fail
  go_ret
  exact ⟨rfl, past_alloc8 _ _⟩

set_option maxHeartbeats 2000000 in
set_option maxRecDepth 100000 in
theorem sbad_n4 (w : World) (kd nm : Int) (A K : Option Addr) (n c m d : Nat) (hn : n ≤ 1000000000000) (hm : m ≤ 1000000000000) (h : 0 < n) :
    Calls Tryd.prog 39 #[.agg #[.int .i64 4, .int .u64 0, .slice A n c, .slice K m d]] w (ShapeP false w) := by
  have h2 : (0 : Int) < (n : Int) := by omega
  go_enter Tryd.func39, Tryd.ntmps39
  go_wp2_with fail
  go_ret
  exact ⟨rfl, past_alloc8 _ _⟩

set_option maxHeartbeats 2000000 in
set_option maxRecDepth 100000 in
theorem sbad_u5 (w : World) (kd nm : Int) (A K : Option Addr) (n c m d : Nat) (hn : n ≤ 1000000000000) (hm : m ≤ 1000000000000) (h : 0 < nm) :
    Calls Tryd.prog 39 #[.agg #[.int .i64 5, .int .u64 nm, .slice A n c, .slice K m d]] w (ShapeP false w) := by
  go_enter Tryd.func39, Tryd.ntmps39
  go_wp2_with fail
  go_ret
  exact ⟨rfl, past_alloc8 _ _⟩

set_option maxHeartbeats 2000000 in
set_option maxRecDepth 100000 in
theorem sbad_n5 (w : World) (kd nm : Int) (A K : Option Addr) (n c m d : Nat) (hn : n ≤ 1000000000000) (hm : m ≤ 1000000000000) (h : 0 < n) :
    Calls Tryd.prog 39 #[.agg #[.int .i64 5, .int .u64 0, .slice A n c, .slice K m d]] w (ShapeP false w) := by
  have h2 : (0 : Int) < (n : Int) := by omega
  go_enter Tryd.func39, Tryd.ntmps39
  go_wp2_with fail
  go_ret
  exact ⟨rfl, past_alloc8 _ _⟩

set_option maxHeartbeats 2000000 in
set_option maxRecDepth 100000 in
theorem sbad_o5 (w : World) (kd nm : Int) (A K : Option Addr) (n c m d : Nat) (hn : n ≤ 1000000000000) (hm : m ≤ 1000000000000) (h : m % 2 = 1) :
    Calls Tryd.prog 39 #[.agg #[.int .i64 5, .int .u64 0, .slice A 0 c, .slice K m d]] w (ShapeP false w) := by
  have h2 : Int.tmod (m : Int) 2 = 1 := by rw [Int.tmod_eq_emod_of_nonneg (by omega)]; omega
  go_enter Tryd.func39, Tryd.ntmps39
  go_wp2_with fail
  go_ret
  exact ⟨rfl, past_alloc8 _ _⟩

set_option maxHeartbeats 2000000 in
set_option maxRecDepth 100000 in
theorem sgood_0 (w : World) (nm : Int) (A K : Option Addr) (c d : Nat) :
    Calls Tryd.prog 39 #[.agg #[.int .i64 0, .int .u64 nm, .slice A 0 c, .slice K 0 d]] w (ShapeP true w) := by
  have HR : Hid (Iw w w (w.alloc (.cells #[.int .i64 0, .int .u64 nm, .slice A 0 c, .slice K 0 d] 34)) w.heap.size 0 nm A 0 c K 0 d) := Lib.hid ⟨past_alloc8 _ _, past_alloc8 _ _, Row.new _ _ _⟩
  go_enter Tryd.func39, Tryd.ntmps39
  go_wp2_with fail
  generalize w.alloc (.cells #[.int .i64 0, .int .u64 nm, .slice A 0 c, .slice K 0 d] 34) = w1 at *
  generalize w.heap.size = g at *
  go_loopg [3] 0 (fun k s3 wx => k = 0 ∧ s3 = .int .i64 0 ∧ wx = w1)
  case atStart => exact ⟨rfl, rfl, rfl⟩
  case round =>
    obtain ⟨_, rfl, rfl⟩ := hrel
    have f2 : wr.cell? ⟨g, 2, none⟩ = some (.slice A 0 c) := HR.out.row.cell 2
    go_wp2_with fail
    go_loopg [4] 0 (fun k s4 wx => k = 0 ∧ s4 = .int .i64 0 ∧ wx = wr)
    case atStart => exact ⟨rfl, rfl, rfl⟩
    case round =>
      obtain ⟨_, rfl, rfl⟩ := hrel
      have f3 : wr.cell? ⟨g, 3, none⟩ = some (.slice K 0 d) := HR.out.row.cell 3
      go_wp2_with fail
      go_ret
      exact ⟨rfl, HR.out.past⟩

set_option maxHeartbeats 2000000 in
set_option maxRecDepth 100000 in
theorem sgood_1 (w : World) (nm : Int) (A K : Option Addr) (c d : Nat) :
    Calls Tryd.prog 39 #[.agg #[.int .i64 1, .int .u64 nm, .slice A 0 c, .slice K 0 d]] w (ShapeP true w) := by
  have HR : Hid (Iw w w (w.alloc (.cells #[.int .i64 1, .int .u64 nm, .slice A 0 c, .slice K 0 d] 34)) w.heap.size 1 nm A 0 c K 0 d) := Lib.hid ⟨past_alloc8 _ _, past_alloc8 _ _, Row.new _ _ _⟩
  go_enter Tryd.func39, Tryd.ntmps39
  go_wp2_with fail
  generalize w.alloc (.cells #[.int .i64 1, .int .u64 nm, .slice A 0 c, .slice K 0 d] 34) = w1 at *
  generalize w.heap.size = g at *
  go_loopg [3] 0 (fun k s3 wx => k = 0 ∧ s3 = .int .i64 0 ∧ wx = w1)
  case atStart => exact ⟨rfl, rfl, rfl⟩
  case round =>
    obtain ⟨_, rfl, rfl⟩ := hrel
    have f2 : wr.cell? ⟨g, 2, none⟩ = some (.slice A 0 c) := HR.out.row.cell 2
    go_wp2_with fail
    go_loopg [4] 0 (fun k s4 wx => k = 0 ∧ s4 = .int .i64 0 ∧ wx = wr)
    case atStart => exact ⟨rfl, rfl, rfl⟩
    case round =>
      obtain ⟨_, rfl, rfl⟩ := hrel
      have f3 : wr.cell? ⟨g, 3, none⟩ = some (.slice K 0 d) := HR.out.row.cell 3
      go_wp2_with fail
      go_ret
      exact ⟨rfl, HR.out.past⟩

end Go.Proofs.YtmhgpdfllpgjpaaDoor
