/- The fixed results that the laws ask for first: the contract of awake. -/
import Derived.Test.YtjoncepjeijmoaaRef4
namespace Go.Proofs.Ytjoncepjeijmoaa
open Go.RowKit

/-- What is known in the middle of awake: the reader over 1, 2, 3 at the offset k, and the two bytes that Put has made. -/
structure Aw (w0 w : World) (g : Nat) (A : Option Addr) (c k : Nat) (B : Option Addr) (d : Nat) : Prop where
  past : Past w0 w
  rdr : Rdr w g A 3 c k
  own : Sl w A 3 c [1, 2, 3]
  put : Sl w B 2 d [1, 2]
  new : w0.heap.size ≤ g
section
variable {w0 w w' : World} {g : Nat} {A B : Option Addr} {c d k : Nat}
theorem Aw.drewN (h : Aw w0 w g A c k B d) (m : Nat) : Aw w0 (w.drewN m) g A c k B d := ⟨h.past.drewN m, h.rdr.drewN m, h.own.drewN m, h.put.drewN m, h.new⟩
theorem Aw.set1 (h : Aw w0 w g A c k B d) (k' : Nat) : Aw w0 (w.setCell ⟨g, 1, none⟩ (.int .i64 (k' : Int))) g A c k' B d :=
  ⟨h.past.setCell h.new _, h.rdr.set1 k', h.own.setCell h.rdr.c1 (by intro x hx; cases hx), h.put.setCell h.rdr.c1 (by intro x hx; cases hx), h.new⟩
theorem Aw.later (h : Aw w0 w g A c k B d) (hp : Past w w') : Aw w0 w' g A c k B d := ⟨h.past.trans' hp, h.rdr.past hp, h.own.past hp, h.put.past hp, h.new⟩
theorem Aw.only (h : Aw w0 w g A c k B d) (hg : w.grownBy w' (some g)) {k' : Nat} (hr : Rdr w' g A 3 c k') : Aw w0 w' g A c k' B d :=
  ⟨past_of_only h.past hg h.past.size h.new, hr, h.own.only hg h.rdr.nobyte, h.put.only hg h.rdr.nobyte, h.new⟩
end

theorem put_258 (w : World) : Calls Try.prog 17 #[.int .i64 2, .int .u64 258] w (FreshT w [1, 2]) := put_ok 2 258 w (by decide) (by decide)
theorem put_256 (w : World) : Calls Try.prog 17 #[.int .i64 1, .int .u64 256] w fun e w' => e = .returned (.tuple #[.slice none 0 0, .bool false]) ∧ w = w' := put_big 1 256 w (by decide) (by decide)

theorem Sl.built {w : World} {e : TypeId} {xs : List Int} {cs : Array Value} {g n : Nat} (hg : g = w.heap.size) (hn : xs.length = n) (hc : ∀ i, i < n → cs[i]? = some (.int .u8 (xs.getD i 0))) (hb : n ≤ 1000) (hr : ∀ x ∈ xs, 0 ≤ x ∧ x < 256) :
    Sl (w.alloc (.cells cs e)) (some ⟨g, 0, none⟩) n n xs := by
  subst hg
  refine ⟨hn, Nat.le_refl _, by unfold maxLen; omega, fun _ => ⟨_, _, rfl, fun i hi => ?_⟩, hr, fun e => by cases e⟩
  rw [World.cell?_alloc_new, Nat.zero_add]
  exact hc i hi

section
variable {w0 w : World} {g : Nat} {A B : Option Addr} {c d : Nat}
theorem aw_word (h : Aw w0 w g A c 0 B d) : Calls Try.prog 11 #[.pointer (some ⟨g, 0, none⟩), .int .i64 2] w fun e w' => e = .returned (.tuple #[.int .u64 258, .bool true]) ∧ Aw w0 w' g A c 2 B d :=
  (word_ok 2 w g A 3 c 0 [1, 2, 3] h.rdr h.own (by omega) (by omega) (by decide)).mono (by
    rintro e w' ⟨rfl, m, rfl⟩
    exact ⟨rfl, (h.drewN m).set1 2⟩)
theorem aw_noword (h : Aw w0 w g A c 2 B d) : Calls Try.prog 11 #[.pointer (some ⟨g, 0, none⟩), .int .i64 2] w fun e w' => e = .returned (.tuple #[.int .u64 0, .bool false]) ∧ Aw w0 w' g A c 2 B d :=
  (word_far 2 w g A 3 c 2 h.rdr (by omega) (by omega) (by decide) (by decide)).mono (by
    rintro e w' ⟨rfl, m, rfl⟩
    exact ⟨rfl, h.drewN m⟩)
theorem aw_at (h : Aw w0 w g A c 2 B d) : Calls Try.prog 15 #[.pointer (some ⟨g, 0, none⟩)] w fun e w' => e = .returned (.int .i64 2) ∧ Aw w0 w' g A c 2 B d :=
  (at_any w g A 3 c 2 h.rdr).mono (by
    rintro e w' ⟨rfl, rfl⟩
    exact ⟨rfl, h⟩)
theorem aw_left (h : Aw w0 w g A c 2 B d) : Calls Try.prog 16 #[.pointer (some ⟨g, 0, none⟩)] w fun e w' => e = .returned (.int .i64 1) ∧ Aw w0 w' g A c 2 B d :=
  (left_any w g A 3 c 2 h.rdr (by omega) (by omega)).mono (by
    rintro e w' ⟨rfl, m, rfl⟩
    exact ⟨rfl, h.drewN m⟩)
theorem aw_left0 (h : Aw w0 w g A c 3 B d) : Calls Try.prog 16 #[.pointer (some ⟨g, 0, none⟩)] w fun e w' => e = .returned (.int .i64 0) ∧ Aw w0 w' g A c 3 B d :=
  (left_any w g A 3 c 3 h.rdr (by omega) (by omega)).mono (by
    rintro e w' ⟨rfl, m, rfl⟩
    exact ⟨rfl, h.drewN m⟩)
def AwRest (w0 : World) (g : Nat) (A : Option Addr) (c : Nat) (B : Option Addr) (d : Nat) (e : Ending) (w' : World) : Prop :=
  ∃ R r, e = .returned (.slice R 1 r) ∧ Sl w' R 1 r [3] ∧ Aw w0 w' g A c 3 B d
theorem aw_rest (h : Aw w0 w g A c 2 B d) : Calls Try.prog 13 #[.pointer (some ⟨g, 0, none⟩)] w (AwRest w0 g A c B d) :=
  (rest_any w g A 3 c 2 [1, 2, 3] h.rdr h.own (by omega) (by omega)).mono (by
    rintro e w' ⟨R, r, rfl, hr, hs, _, hg⟩
    exact ⟨R, r, rfl, hs, h.only hg hr⟩)
theorem aw_same {D : Option Addr} {p : Nat} (h : Aw w0 w g A c 2 B d) (hs : Sl w D 2 p [1, 2]) : Calls Try.prog 14 #[.slice B 2 d, .slice D 2 p] w fun e w' => e = .returned (.bool true) ∧ Aw w0 w' g A c 2 B d :=
  (rsame_any B D 2 2 d p [1, 2] [1, 2] w h.put hs).mono (by
    rintro e w' ⟨rfl, m, rfl⟩
    exact ⟨rfl, h.drewN m⟩)
theorem aw_same3 {D R : Option Addr} {p r : Nat} (h : Aw w0 w g A c 3 B d) (hr : Sl w R 1 r [3]) (hs : Sl w D 1 p [3]) : Calls Try.prog 14 #[.slice R 1 r, .slice D 1 p] w fun e w' => e = .returned (.bool true) ∧ Aw w0 w' g A c 3 B d :=
  (rsame_any R D 1 1 r p [3] [3] w hr hs).mono (by
    rintro e w' ⟨rfl, m, rfl⟩
    exact ⟨rfl, h.drewN m⟩)
theorem aw_own (h : Aw w0 w g A c 3 B d) : Calls Try.prog 21 #[.slice B 2 d, .slice B 2 d] w fun e w' => e = .returned (.bool true) ∧ w = w' :=
  same_any B B 2 2 d d [1, 2] [1, 2] w h.put h.put
theorem aw_nil (h : Aw w0 w g A c 3 B d) : Calls Try.prog 21 #[.slice B 2 d, .slice none 0 0] w fun e w' => e = .returned (.bool false) ∧ w = w' :=
  same_any B none 2 0 d 0 [1, 2] [] w h.put (Sl.nil w)
end

theorem awake_any (w : World) : Calls Try.prog 7 #[] w fun e w' => e = .returned (.bool true) ∧ Past w w' := by
  go_enter Try.func7, Try.ntmps7
  go_wp2_with fail
  refine (put_258 _).mono ?_
  rintro e w1 ⟨B, d, rfl, ho, hp1⟩
  have HB : Hid (Sl w1 B 2 d [1, 2]) := Sl.of_own ho (by decide)
  have HP1 := Lib.hid hp1
  clear ho hp1
  go_wp2_with fail
  refine (put_256 _).mono ?_
  rintro e w' ⟨rfl, rfl⟩
  go_wp2_with fail
  have hs : Sl (w1.alloc (.cells #[.int .u8 1, .int .u8 2, .int .u8 3] 5)) (some ⟨w1.heap.size, 0, none⟩) 3 3 [1, 2, 3] :=
    Sl.built rfl rfl (by intro i hi; have : i = 0 ∨ i = 1 ∨ i = 2 := by omega
                         rcases this with rfl | rfl | rfl <;> rfl) (by omega) (by decide)
  refine (new_any _ 3 3 [1, 2, 3] _ hs (by omega)).mono ?_
  rintro e w2 ⟨g, A, c, rfl, hr, hsl, hg, hp2⟩
  have HA : Hid (Aw w w2 g A c 0 B d) := by
    have h1 : Past w1 (w1.alloc (.cells #[.int .u8 1, .int .u8 2, .int .u8 3] 5)) := (Below.refl _ _).alloc (Nat.le_refl _) _
    refine ⟨(HP1.out.trans' h1).trans' hp2, hr, hsl, (HB.out.past h1).past hp2, ?_⟩
    have := HP1.out.size
    simp only [World.size_alloc] at hg
    omega
  clear HB hs hr hsl hg hp2
  go_wp2_with fail
  refine (aw_word HA.out).mono ?_
  rintro e w3 ⟨rfl, ha⟩
  replace HA := Lib.hid ha
  clear ha
  go_wp2_with fail
  refine (aw_noword HA.out).mono ?_
  rintro e w4 ⟨rfl, ha⟩
  replace HA := Lib.hid ha
  clear ha
  go_wp2_with fail
  have h1 : Past w4 (w4.alloc (.cells #[.int .u8 1, .int .u8 2] 5)) := (Below.refl _ _).alloc (Nat.le_refl _) _
  have hs : Sl (w4.alloc (.cells #[.int .u8 1, .int .u8 2] 5)) (some ⟨w4.heap.size, 0, none⟩) 2 2 [1, 2] :=
    Sl.built rfl rfl (by intro i hi; have : i = 0 ∨ i = 1 := by omega
                         rcases this with rfl | rfl <;> rfl) (by omega) (by decide)
  refine (aw_same (HA.out.later h1) hs).mono ?_
  rintro e w5 ⟨rfl, ha⟩
  replace HA := Lib.hid ha
  clear ha h1 hs
  go_wp2_with fail
  refine (aw_at HA.out).mono ?_
  rintro e w6 ⟨rfl, ha⟩
  replace HA := Lib.hid ha
  clear ha
  go_wp2_with fail
  refine (aw_left HA.out).mono ?_
  rintro e w7 ⟨rfl, ha⟩
  replace HA := Lib.hid ha
  clear ha
  go_wp2_with fail
  refine (aw_rest HA.out).mono ?_
  rintro e w8 ⟨R, r, rfl, hr, ha⟩
  replace HA := Lib.hid ha
  have HR := Lib.hid hr
  clear ha hr
  go_wp2_with fail
  have h1 : Past w8 (w8.alloc (.cells #[.int .u8 3] 5)) := (Below.refl _ _).alloc (Nat.le_refl _) _
  have hs : Sl (w8.alloc (.cells #[.int .u8 3] 5)) (some ⟨w8.heap.size, 0, none⟩) 1 1 [3] :=
    Sl.built rfl rfl (by intro i hi; have : i = 0 := by omega
                         subst this; rfl) (by omega) (by decide)
  refine (aw_same3 (HA.out.later h1) (HR.out.past h1) hs).mono ?_
  rintro e w9 ⟨rfl, ha⟩
  replace HA := Lib.hid ha
  clear ha h1 hs HR
  go_wp2_with fail
  refine (aw_left0 HA.out).mono ?_
  rintro e w10 ⟨rfl, ha⟩
  replace HA := Lib.hid ha
  clear ha
  go_wp2_with fail
  refine (aw_own HA.out).mono ?_
  rintro e w' ⟨rfl, rfl⟩
  go_wp2_with fail
  refine (aw_nil HA.out).mono ?_
  rintro e w' ⟨rfl, rfl⟩
  go_wp2_with fail
  go_ret
  exact ⟨rfl, HA.out.past⟩

end Go.Proofs.Ytjoncepjeijmoaa
