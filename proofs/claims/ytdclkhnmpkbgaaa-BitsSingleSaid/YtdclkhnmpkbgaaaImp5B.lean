/- The test whether one of the numbers is too wide: the library's search with the program's closure. -/
import Derived.Test.YtdclkhnmpkbgaaaImp5A
namespace Go.Proofs.Ytdclkhnmpkbgaaa
open Go.RowKit

/-- Whether one of the first n numbers needs more than d bits. -/
def wideB (d : Int) (ls : List Int) (n : Nat) : Bool := (List.range n).any fun i => decide (d < (leastN (ls.getD i 0).toNat : Int))
theorem wideB_succ (d : Int) (ls : List Int) (n : Nat) : wideB d ls (n + 1) = (wideB d ls n || decide (d < (leastN (ls.getD n 0).toNat : Int))) := by simp [wideB, List.range_succ]
theorem wideB_true {d : Int} {ls : List Int} {n i : Nat} (hi : i < n) (h : d < (leastN (ls.getD i 0).toNat : Int)) : wideB d ls n = true :=
  List.any_eq_true.2 ⟨i, List.mem_range.2 hi, decide_eq_true h⟩
theorem wideB_false {d : Int} {ls : List Int} {n : Nat} (h : wideB d ls n = false) (i : Nat) (hi : i < n) : (leastN (ls.getD i 0).toNat : Int) ≤ d := by
  by_cases hw : d < (leastN (ls.getD i 0).toNat : Int)
  · rw [wideB_true hi hw] at h
    cases h
  · omega

set_option maxHeartbeats 1000000 in
theorem pindex_any (d : Int) (g : Nat) (A : Option Addr) (n c : Nat) (ls : List Int) (w : World) (hS : SlK .u32 w A n c ls) (hr : ∀ i, 0 ≤ ls.getD i 0 ∧ ls.getD i 0 < 4294967296)
    (hd : w.cell? ⟨g, 0, none⟩ = some (.int .i64 d)) (hn : n ≤ 10000) :
    Calls Try.prog 25 #[.slice A n c, .func (.func 20) #[] #[.pointer (some ⟨g, 0, none⟩)]] w fun e w' =>
      ∃ r : Int, e = .returned (.int .i64 r) ∧ decide (0 ≤ r) = wideB d ls n ∧ -1 ≤ r ∧ r ≤ 10000 ∧ ∃ m, w' = w.drewN m := by
  have HC := fun (i m : Nat) => Lib.hid (wide_any (ls.getD i 0) d g (w.drewN m) (hr i).1 (hr i).2 hd)
  have HS := Lib.hid hS
  have eg : ∀ args w, (callFunc 20 args).run Try.prog w = .ok (.enter 20 args) w := enters_of Try.func20 (by kernel_rfl) rfl
  clear hS hr hd
  go_enter Try.func25, Try.ntmps25
  go_wp2
  go_loopg [5, 8] n (fun k _ s8 wr => ∃ i : Nat, i ≤ n ∧ k = n - i ∧ s8 = .int .i64 (i : Int) ∧ Hid (wideB d ls i = false) ∧ Hid (∃ m, wr = w.drewN m))
  case atStart => exact ⟨0, Nat.zero_le _, rfl, rfl, rfl, ⟨0, rfl⟩⟩
  case round =>
    obtain ⟨i, hin, hgk, rfl, HW, m, rfl⟩ := hrel
    have HGK := Lib.hid hgk
    clear hgk
    by_cases hlt : i < n
    · obtain ⟨b, o, rfl, hc⟩ := HS.out.cells (by omega)
      have hx : (w.drewN m).cell? ⟨b, o + i, none⟩ = _ := hc i hlt
      have hi0 : (0 : Int) ≤ (i : Int) := by omega
      have hin1 : (i : Int) < (n : Int) := by omega
      have HB := Lib.hid (wideB_succ d ls i)
      have HI := HC i m
      have HT : Hid (d < (leastN (ls.getD i 0).toNat : Int) → wideB d ls n = true) := wideB_true hlt
      clear hc HC
      generalize ls.getD i 0 = x at *
      by_cases hq : d < (leastN x.toNat : Int)
      · have hqb : decide (d < (leastN x.toNat : Int)) = true := by simpa using hq
        rw [hqb] at HI
        have HT2 : Hid (wideB d ls n = true) := HT.out hq
        clear hq hqb HT HB
        go_wp2_with fail
        refine HI.out.mono ?_
        rintro e w' ⟨rfl, m2, rfl⟩
        go_wp2_with fail
        go_ret
        exact ⟨(i : Int), rfl, by rw [HT2.out]; simp, by omega, by omega, _, rfl⟩
      · have hqb : decide (d < (leastN x.toNat : Int)) = false := by simpa using hq
        rw [hqb] at HI HB
        clear hq hqb HT
        go_wp2_with fail
        refine HI.out.mono ?_
        rintro e w' ⟨rfl, m2, rfl⟩
        go_wp2_with fail
        go_roundg (n - (i + 1))
        case measure => have := HGK.out; omega
        case rel => exact ⟨i + 1, by omega, rfl, by go_num, (show _ = _ by rw [HB.out, HW.out]; rfl), ⟨_, rfl⟩⟩
    · obtain rfl : i = n := by omega
      go_wp2_with fail
      go_ret
      exact ⟨-1, rfl, by rw [HW.out]; rfl, by omega, by omega, _, rfl⟩

theorem pcontains_any (d : Int) (g : Nat) (A : Option Addr) (n c : Nat) (ls : List Int) (w : World) (hS : SlK .u32 w A n c ls) (hr : ∀ i, 0 ≤ ls.getD i 0 ∧ ls.getD i 0 < 4294967296)
    (hd : w.cell? ⟨g, 0, none⟩ = some (.int .i64 d)) (hn : n ≤ 10000) :
    Calls Try.prog 22 #[.slice A n c, .func (.func 20) #[] #[.pointer (some ⟨g, 0, none⟩)]] w fun e w' =>
      e = .returned (.bool (wideB d ls n)) ∧ ∃ m, w' = w.drewN m := by
  have HI := Lib.hid (pindex_any d g A n c ls w hS hr hd hn)
  clear hS hr hd
  go_enter Try.func22, Try.ntmps22
  go_wp2_with fail
  refine HI.out.mono ?_
  rintro e w' ⟨r, rfl, hw, _, _, m, rfl⟩
  have HW := Lib.hid hw
  clear hw
  go_wp2_with fail
  go_ret
  exact ⟨by rw [← HW.out]; rfl, _, rfl⟩

end Go.Proofs.Ytdclkhnmpkbgaaa
