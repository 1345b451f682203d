/- Contracts of the reference reader: Take and Word. -/
import Derived.Test.YtjoncepjeijmoaaRef1
namespace Go.Proofs.Ytjoncepjeijmoaa
open Go.RowKit

theorem rtake_no (n : Int) (A : Option Addr) (l c k : Nat) (w : World) (hk : k ≤ l) (hl : l ≤ 9223372036854775807) (hn : n < 0 ∨ ((l - k : Nat) : Int) < n) :
    Calls Try.prog 10 #[.agg #[.slice A l c, .int .i64 (k : Int)], .int .i64 n] w fun e w' =>
      e = .returned (.tuple #[.agg #[.slice A l c, .int .i64 (k : Int)], .slice none 0 0, .bool false]) ∧ Past w w' := by
  by_cases hneg : n < 0
  · clear hn
    go_enter Try.func10, Try.ntmps10
    go_wp2
    refine bodyPost_ret (v := .tuple #[.agg #[.slice A l c, .int .i64 (k : Int)], .slice none 0 0, .bool false]) (by simp [results, Try.results10, go_sem]) rfl ⟨rfl, ?_⟩
    exact ((Below.refl _ _).alloc (Nat.le_refl _) _).alloc (by simp) _
  · have hn2 : (l : Int) - (k : Int) < n := by omega
    clear hn
    go_enter Try.func10, Try.ntmps10
    go_wp2
    refine bodyPost_ret (v := .tuple #[.agg #[.slice A l c, .int .i64 (k : Int)], .slice none 0 0, .bool false]) (by simp [results, Try.results10, go_sem]) rfl ⟨rfl, ?_⟩
    exact ((Below.refl _ _).alloc (Nat.le_refl _) _).alloc (by simp) _

/-- What the reference Take returns when there are enough bytes. -/
def RTook (w : World) (A : Option Addr) (l c k : Nat) (ys : List Int) (e : Ending) (w' : World) : Prop :=
  ∃ A1 c1, e = .returned (.tuple #[.agg #[.slice A l c, .int .i64 (k : Int)], .slice A1 ys.length c1, .bool true]) ∧
    w'.ownsRow w.heap.size 5 1 (.slice A1 ys.length c1) ys.length (ys.map (Value.int .u8)) ∧ Past w w'

theorem rtake_ok (n : Nat) (w : World) (A : Option Addr) (l c k : Nat) (xs : List Int) (hs : Sl w A l c xs) (hk : k ≤ l) (hl : l ≤ 140737488355328) (hn : n ≤ l - k) :
    Calls Try.prog 10 #[.agg #[.slice A l c, .int .i64 (k : Int)], .int .i64 (n : Int)] w (RTook w A l c (k + n) ((xs.drop k).take n)) := by
  have hcp := hs.cap
  have hbg := hs.big
  unfold maxLen at hbg
  have hlen : ((xs.drop k).take n).length = n := by have := hs.len; simp; omega
  have hcut := hs.cut2 (i := k) (m := n) (by omega)
  generalize (xs.drop k).take n = ys at hlen hcut ⊢
  have hn0 : (0 : Int) ≤ (n : Int) := by omega
  have hnle : (n : Int) ≤ (l : Int) - (k : Int) := by omega
  have hkn : (k : Int) + (n : Int) ≤ (c : Int) := by omega
  have key : ∀ (A' : Option Addr) (c' : Nat), Sl w A' n c' ys → ∀ W, W = (w.alloc (.cells #[.slice A l c, .int .i64 (k : Int)] 28)).alloc (.cells #[.slice none 0 0, .int .i64 0] 28) → Sl (W.alloc (.cells #[] 5)) A' (k + n - k) c' ys := by
    intro A' c' h W hW
    subst hW
    rw [show k + n - k = n from by omega]
    exact h.past ((((Below.refl _ _).alloc (Nat.le_refl _) _).alloc (by simp) _).alloc (by simp; omega) _)
  have HK := Lib.hid key
  have HL := Lib.hid hlen
  clear key hlen
  by_cases hck : c = k
  · rw [if_pos hck] at hcut
    have HS := Lib.hid hcut
    clear hs hcut
    subst hck
    obtain rfl : n = 0 := by omega
    go_enter Try.func10, Try.ntmps10
    go_wp2_with (at_builtin; go_loud (refine wpList_append_sl rfl _ _ 22 5 rfl Try.underlying22 info8 (w.heap.size + 1 + 1) _ 0 [] rfl ?c0 A 0 0 ys rfl ?c1 ?c2 ?c3 ?_))
    case c0 => exact own_empty _ _ (by simp) (Nat.le_refl _)
    case c1 => simpa using HK.out _ _ HS.out _ rfl
    case c2 => omega
    case c3 => simp only [World.size_alloc]; omega
    intro v' w1 hown hgrow
    have hr0 : Row w1 w.heap.size 28 #[.slice A l c, .int .i64 (c : Int)] := (((Row.new w _ _).alloc _).alloc _).grown hgrow (by simp [Value.ownBlock]; omega)
    have hr1 : Row w1 (w.heap.size + 1) 28 #[.slice none 0 0, .int .i64 0] := ((by simpa using Row.new (w.alloc (.cells #[.slice A l c, .int .i64 (c : Int)] 28)) _ _ : Row ((w.alloc (.cells #[.slice A l c, .int .i64 (c : Int)] 28)).alloc (.cells #[.slice none 0 0, .int .i64 0] 28)) (w.heap.size + 1) 28 #[.slice none 0 0, .int .i64 0]).alloc _).grown hgrow (by simp [Value.ownBlock])
    have hp : Past w w1 := ((((Below.refl _ w).alloc (Nat.le_refl _) _).alloc (by simp) _).alloc (by simp; omega) _).grown hgrow (by simp; omega) (by intro x hx; simp [Value.ownBlock] at hx; omega)
    have e0 : w1.cell? ⟨w.heap.size, 0, none⟩ = some (.slice A l c) := hr0.cell 0
    have e1 : w1.cell? ⟨w.heap.size, 1, none⟩ = some (.int .i64 (c : Int)) := hr0.cell 1
    have e2 : w1.cell? ⟨w.heap.size + 1, 0, none⟩ = some (.slice none 0 0) := hr1.cell 0
    have e3 : w1.cell? ⟨w.heap.size + 1, 1, none⟩ = some (.int .i64 0) := hr1.cell 1
    have f1 := hr0.fr 1
    have f2 := hr1.fr 0
    have f3 := hr1.fr 1
    have HP := Lib.hid hp
    have HO := Lib.hid hown
    clear hown hgrow hp hr0 hr1
    go_wp2
    obtain ⟨A1, c1, rfl⟩ := own_slice HO.out
    have hy : ys = [] := List.eq_nil_of_length_eq_zero HL.out
    subst hy
    refine bodyPost_ret (v := .tuple #[.agg #[.slice A l c, .int .i64 ((c + 0 : Nat) : Int)], .slice A1 0 c1, .bool true]) (by simp [results, Try.results10, go_sem, e2, e3]) rfl ⟨A1, c1, rfl, ?_, ?_⟩
    · exact own_mono (ownsRow_setCell_below (ownsRow_setCell_below (ownsRow_setCell_below HO.out (by simp; omega) _) (by simp) _) (by simp) _) (by omega)
    · exact ((HP.out.setCell (by simp) _).setCell (by simp) _).setCell (by simp) _
  · rw [if_neg hck] at hcut
    have HS := Lib.hid hcut
    clear hs hcut
    go_enter Try.func10, Try.ntmps10
    go_wp2_with (at_builtin; go_loud (refine wpList_append_sl rfl _ _ 22 5 rfl Try.underlying22 info8 (w.heap.size + 1 + 1) _ 0 [] rfl ?c0 (A.map (·.add k)) (k + n - k) (c - k) ys rfl ?c1 ?c2 ?c3 ?_))
    case c0 => exact own_empty _ _ (by simp) (Nat.le_refl _)
    case c1 => exact HK.out _ _ HS.out _ rfl
    case c2 => omega
    case c3 => simp only [World.size_alloc]; omega
    intro v' w1 hown hgrow
    have hr0 : Row w1 w.heap.size 28 #[.slice A l c, .int .i64 (k : Int)] := (((Row.new w _ _).alloc _).alloc _).grown hgrow (by simp [Value.ownBlock]; omega)
    have hr1 : Row w1 (w.heap.size + 1) 28 #[.slice none 0 0, .int .i64 0] := ((by simpa using Row.new (w.alloc (.cells #[.slice A l c, .int .i64 (k : Int)] 28)) _ _ : Row ((w.alloc (.cells #[.slice A l c, .int .i64 (k : Int)] 28)).alloc (.cells #[.slice none 0 0, .int .i64 0] 28)) (w.heap.size + 1) 28 #[.slice none 0 0, .int .i64 0]).alloc _).grown hgrow (by simp [Value.ownBlock])
    have hp : Past w w1 := ((((Below.refl _ w).alloc (Nat.le_refl _) _).alloc (by simp) _).alloc (by simp; omega) _).grown hgrow (by simp; omega) (by intro x hx; simp [Value.ownBlock] at hx; omega)
    have e0 : w1.cell? ⟨w.heap.size, 0, none⟩ = some (.slice A l c) := hr0.cell 0
    have e1 : w1.cell? ⟨w.heap.size, 1, none⟩ = some (.int .i64 (k : Int)) := hr0.cell 1
    have e2 : w1.cell? ⟨w.heap.size + 1, 0, none⟩ = some (.slice none 0 0) := hr1.cell 0
    have e3 : w1.cell? ⟨w.heap.size + 1, 1, none⟩ = some (.int .i64 0) := hr1.cell 1
    have f1 := hr0.fr 1
    have f2 := hr1.fr 0
    have f3 := hr1.fr 1
    have HP := Lib.hid hp
    have HO := Lib.hid hown
    clear hown hgrow hp hr0 hr1
    go_wp2
    obtain ⟨A1, c1, rfl⟩ := own_slice HO.out
    have hn2 := HL.out
    subst hn2
    refine bodyPost_ret (v := .tuple #[.agg #[.slice A l c, .int .i64 ((k + ys.length : Nat) : Int)], .slice A1 ys.length c1, .bool true]) (by simp [results, Try.results10, go_sem, e2, e3]) rfl ⟨A1, c1, rfl, ?_, ?_⟩
    · exact own_mono (ownsRow_setCell_below (ownsRow_setCell_below (ownsRow_setCell_below HO.out (by simp; omega) _) (by simp) _) (by simp) _) (by omega)
    · exact ((HP.out.setCell (by simp) _).setCell (by simp) _).setCell (by simp) _

theorem rword_bad (n : Int) (A : Option Addr) (l c k : Nat) (w : World) (hw : ws n = false) :
    Calls Try.prog 12 #[.agg #[.slice A l c, .int .i64 (k : Int)], .int .i64 n] w fun e w' =>
      e = .returned (.tuple #[.agg #[.slice A l c, .int .i64 (k : Int)], .int .u64 0, .bool false]) ∧ Past w w' := by
  obtain ⟨h1, h2, h4, h8⟩ := ws_no hw
  have e1 : (n != 1) = true := by simpa using h1
  have e2 : (n != 2) = true := by simpa using h2
  have e4 : (n != 4) = true := by simpa using h4
  have e8 : (n != 8) = true := by simpa using h8
  clear hw h1 h2 h4 h8
  go_enter Try.func12, Try.ntmps12
  go_wp2
  refine bodyPost_ret (v := .tuple #[.agg #[.slice A l c, .int .i64 (k : Int)], .int .u64 0, .bool false]) (by simp [results, Try.results12, go_sem]) rfl ⟨rfl, ?_⟩
  exact ((Below.refl _ _).alloc (Nat.le_refl _) _).alloc (by simp) _

theorem rword_far (n : Int) (A : Option Addr) (l c k : Nat) (w : World) (hw : ws n = true) (hk : k ≤ l) (hl : l ≤ 9223372036854775807) (hn : ((l - k : Nat) : Int) < n) :
    Calls Try.prog 12 #[.agg #[.slice A l c, .int .i64 (k : Int)], .int .i64 n] w fun e w' =>
      e = .returned (.tuple #[.agg #[.slice A l c, .int .i64 (k : Int)], .int .u64 0, .bool false]) ∧ Past w w' := by
  have hc := fun W => rtake_no n A l c k W hk hl (.inr hn)
  have H := Lib.hid hc
  clear hc hn
  rcases ws_nat hw with rfl | rfl | rfl | rfl
  all_goals
    clear hw
    go_enter Try.func12, Try.ntmps12
    go_wp2_with fail
    refine (H.out _).mono ?_
    rintro e w1 ⟨rfl, hp⟩
    obtain ⟨r0, r1, hz, hq⟩ := two_rows hp
    have e0 : w1.cell? ⟨w.heap.size, 0, none⟩ = some (.slice A l c) := r0.cell 0
    have e1 : w1.cell? ⟨w.heap.size, 1, none⟩ = some (.int .i64 (k : Int)) := r0.cell 1
    have e2 : w1.cell? ⟨w.heap.size + 1, 0, none⟩ = some (.slice none 0 0) := r1.cell 0
    have e3 : w1.cell? ⟨w.heap.size + 1, 1, none⟩ = some (.int .i64 0) := r1.cell 1
    have f2 := r1.fr 0
    have f3 := r1.fr 1
    have HP := Lib.hid hq
    clear hp r0 r1 hq
    have hz0 : w.heap.size < w1.heap.size := by omega
    have hz1 : ¬ w.heap.size = w1.heap.size := by omega
    have hz2 : ¬ w.heap.size + 1 = w1.heap.size := by omega
    go_wp2_with fail
    refine bodyPost_ret (v := .tuple #[.agg #[.slice A l c, .int .i64 (k : Int)], .int .u64 0, .bool false]) (by simp [results, Try.results12, go_sem, e2, e3, hz]) rfl ⟨rfl, ?_⟩
    exact ((HP.out.setCell (by simp) _).setCell (by simp) _).alloc (by simp; omega) _

end Go.Proofs.Ytjoncepjeijmoaa
