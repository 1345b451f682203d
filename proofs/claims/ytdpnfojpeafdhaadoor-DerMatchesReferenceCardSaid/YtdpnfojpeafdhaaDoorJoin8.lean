/- Contracts of Same and Join of package wire. -/
import Derived.Test.YtdpnfojpeafdhaaDoorD8C
import Derived.Test.YtdpnfojpeafdhaaDoorSame1
namespace Go.Proofs.YtdpnfojpeafdhaaDoor
open Go.RowKit

/-- Equal bytes have equal strings. -/
theorem bytesOf_sameB (xs ys : List Int) (hx : ∀ x ∈ xs, 0 ≤ x ∧ x < 256) (hy : ∀ x ∈ ys, 0 ≤ x ∧ x < 256) : (Lib.bytesOf xs == Lib.bytesOf ys) = sameB xs ys := by
  rw [Bool.eq_iff_iff]
  simp only [sameB, beq_iff_eq, decide_eq_true_eq, Lib.bytesOf]
  constructor
  · intro h
    induction xs generalizing ys with
    | nil => cases ys <;> simp_all
    | cons x xs ih =>
      cases ys with
      | nil => simp at h
      | cons y ys =>
        simp only [List.map_cons, List.cons.injEq] at h
        obtain ⟨hx0, hx1⟩ := hx x (by simp)
        obtain ⟨hy0, hy1⟩ := hy y (by simp)
        have e := congrArg UInt8.toNat h.1
        simp only [UInt8.toNat_ofNat'] at e
        have exy : x = y := by omega
        rw [exy, ih ys (fun z hz => hx z (by simp [hz])) (fun z hz => hy z (by simp [hz])) h.2]
  · rintro rfl
    rfl
theorem same_any (A1 A2 : Option Addr) (n1 n2 c1 c2 : Nat) (xs ys : List Int) (w : World) (h1 : Sl w A1 n1 c1 xs) (h2 : Sl w A2 n2 c2 ys) :
    Calls Tryd.prog 50 #[.slice A1 n1 c1, .slice A2 n2 c2] w fun e w' => e = .returned (.bool (sameB xs ys)) ∧ w = w' := by
  have hc := Tryd.bytes_Equal_all A1 A2 n1 c1 n2 c2 xs ys w h1.len h2.len h1.bytes h2.bytes
  rw [bytesOf_sameB xs ys h1.rng h2.rng] at hc
  generalize sameB xs ys = r at hc ⊢
  have H := Lib.hid hc
  clear hc h1 h2
  go_enter Tryd.func50, Tryd.ntmps50
  go_wp2_with fail
  refine H.out.mono ?_
  rintro e w' ⟨rfl, rfl⟩
  go_wp2
  go_ret
  exact ⟨rfl, rfl⟩

/-- A slice of n slices of bytes: part i lies at V i, with the capacity C i, and has the bytes X i. -/
structure Sls (w : World) (P : Option Addr) (n c : Nat) (V : Nat → Option Addr) (C : Nat → Nat) (X : Nat → List Int) : Prop where
  cap : n ≤ c
  big : c ≤ maxLen
  nil0 : P = none → c = 0
  cells : 0 < n → ∃ b o, P = some ⟨b, o, none⟩ ∧ ∀ i, i < n → w.cell? ⟨b, o + i, none⟩ = some (.slice (V i) (X i).length (C i)) ∧ Sl w (V i) (X i).length (C i) (X i)

theorem Sls.past {w w' : World} {P : Option Addr} {n c : Nat} {V : Nat → Option Addr} {C : Nat → Nat} {X : Nat → List Int} (h : Sls w P n c V C X) (hp : Past w w') : Sls w' P n c V C X :=
  ⟨h.cap, h.big, h.nil0, fun hn => by
    obtain ⟨b, o, rfl, hc⟩ := h.cells hn
    exact ⟨b, o, rfl, fun i hi => ⟨by rw [Below.cell hp (cell_lt (hc i hi).1)]; exact (hc i hi).1, (hc i hi).2.past hp⟩⟩⟩
theorem Past.ofDrewN (w : World) (m : Nat) : Past w (w.drewN m) := Past.drewN (Below.refl _ w) m

/-- The bytes of the first n parts, in order. -/
def cat (X : Nat → List Int) (n : Nat) : List Int := ((List.range n).map X).flatten
theorem cat_zero (X : Nat → List Int) : cat X 0 = [] := rfl
theorem cat_succ (X : Nat → List Int) (n : Nat) : cat X (n + 1) = cat X n ++ X n := by simp [cat, List.range_succ]
theorem cat_rng (X : Nat → List Int) (n : Nat) (h : ∀ i, i < n → ∀ x ∈ X i, 0 ≤ x ∧ x < 256) : ∀ x ∈ cat X n, 0 ≤ x ∧ x < 256 := by
  intro x hx
  simp only [cat, List.mem_flatten, List.mem_map, List.mem_range] at hx
  obtain ⟨l, ⟨i, hi, rfl⟩, hl⟩ := hx
  exact h i hi x hl
theorem cat_len_mono (X : Nat → List Int) {i n : Nat} (h : i ≤ n) : (cat X i).length ≤ (cat X n).length := by
  induction n with
  | zero => obtain rfl : i = 0 := by omega
            exact Nat.le_refl _
  | succ n ih =>
    rcases Nat.lt_or_ge n i with h1 | h1
    · obtain rfl : i = n + 1 := by omega
      exact Nat.le_refl _
    · rw [cat_succ, List.length_append]
      have := ih h1
      omega
theorem Sls.rng {w : World} {P : Option Addr} {n c : Nat} {V : Nat → Option Addr} {C : Nat → Nat} {X : Nat → List Int} (h : Sls w P n c V C X) : ∀ i, i < n → ∀ x ∈ X i, 0 ≤ x ∧ x < 256 := by
  intro i hi
  obtain ⟨b, o, rfl, hc⟩ := h.cells (by omega)
  exact (hc i hi).2.rng

/-- What a joining call returns: the bytes ys in new memory that may be written. -/
def Joined (w : World) (ys : List Int) (e : Ending) (w' : World) : Prop :=
  ∃ A c, e = .returned (.slice A ys.length c) ∧ Sl w' A ys.length c ys ∧ Past w w' ∧
    (0 < ys.length → ∃ g, A = some ⟨g, 0, none⟩ ∧ w.heap.size ≤ g ∧ ∀ i, i < ys.length → w'.frozen? ⟨g, i, none⟩ = false)

theorem join_nil_sep (ls : List (List UInt8)) : Lib.join ls [] = ls.flatten := by
  unfold Lib.join List.intercalate
  cases ls with
  | nil => rfl
  | cons a ls =>
    induction ls generalizing a with
    | nil => simp
    | cons b ls ih =>
      have h := ih b
      simp only [List.intersperse_cons_cons, List.flatten_cons, List.nil_append] at h ⊢
      rw [h]
theorem bytesOf_cat (X : Nat → List Int) (n : Nat) : ((List.range n).map fun i => Lib.bytesOf (X i)).flatten = Lib.bytesOf (cat X n) := by
  unfold Lib.bytesOf cat
  rw [List.map_flatten, List.map_map]
  rfl

theorem bytesOf_inj {xs ys : List Int} (hx : ∀ x ∈ xs, 0 ≤ x ∧ x < 256) (hy : ∀ x ∈ ys, 0 ≤ x ∧ x < 256) (h : Lib.bytesOf xs = Lib.bytesOf ys) : xs = ys := by
  have e := bytesOf_sameB xs ys hx hy
  rw [h] at e
  exact sameB_true (by rw [← e]; simp)

theorem joined_of_fresh {w w' : World} {v : Value} {ys : List Int} (hr : ∀ x ∈ ys, 0 ≤ x ∧ x < 256) (h : Lib.FreshBytes w.heap.size w' v (Lib.bytesOf ys)) (hp : Past w w') : Joined w ys (.returned v) w' := by
  obtain ⟨g, cap, zs, rfl, hg, hlc, hcm, hz, hzr, hb, hc, hf⟩ := h
  rw [Lib.bytesOf_length] at *
  have e : zs.take ys.length = ys := bytesOf_inj (fun x hx => hzr x (List.mem_of_mem_take hx)) hr hb
  refine ⟨_, cap, rfl, ⟨rfl, hlc, hcm, fun hn => ⟨g, 0, rfl, fun i hi => ?_⟩, hr, fun e => by cases e⟩, hp, fun hn => ⟨g, rfl, hg, fun i hi => hf i (by omega)⟩⟩
  rw [Nat.zero_add, hc i (by omega)]
  congr 2
  rw [← e]
  simp [List.getD, hi]

theorem holds_part {w : World} {A : Option Addr} {n c : Nat} {xs : List Int} (h : Sl w A n c xs) : Lib.HoldsBytes w (.slice A n c) (Lib.bytesOf xs) := by
  refine ⟨A, c, by rw [Lib.bytesOf_length, h.len], fun e => ?_, fun a ha i x hx => ?_⟩
  · have h0 := h.nil0 e
    have h1 := h.cap
    have h2 := h.len
    rw [List.eq_nil_of_length_eq_zero (l := xs) (by omega)]
    rfl
  · subst ha
    have hi : i < xs.length := by
      have := (List.getElem?_eq_some_iff.1 hx).1
      rwa [Lib.bytesOf_length] at this
    have hc := h.cells i (.int .u8 xs[i]) (by simp [List.getElem?_eq_getElem hi])
    rw [hc]
    have hr := h.rng xs[i] (List.getElem_mem hi)
    have e : Lib.bytesOf xs = xs.map fun n => UInt8.ofNat n.toNat := rfl
    rw [e, List.getElem?_map, List.getElem?_eq_getElem hi] at hx
    simp only [Option.map_some, Option.some.injEq] at hx
    rw [← hx, UInt8.toNat_ofNat']
    congr 2
    omega

theorem join_any (P : Option Addr) (n c : Nat) (V : Nat → Option Addr) (C : Nat → Nat) (X : Nat → List Int) (w : World) (h : Sls w P n c V C X) (hn47 : n ≤ 140737488355328) (hlen : (cat X n).length ≤ 140737488355328) :
    Calls Tryd.prog 48 #[.slice P n c] w (Joined w (cat X n)) := by
  have key : Calls Tryd.prog 61 #[.slice P n c, .slice none 0 0] w (Joined w (cat X n)) := by
    have hrng := cat_rng X n h.rng
    rcases Nat.lt_or_ge n 1 with h0 | h1
    · obtain rfl : n = 0 := by omega
      refine (Tryd.bytes_Join_none P c (.slice none 0 0) w).mono ?_
      rintro e w' ⟨rfl, rfl⟩
      exact ⟨_, 0, rfl, ⟨rfl, Nat.le_refl _, Nat.zero_le _, BIn.nil _ _ _, hrng, fun e => by cases e⟩, (Below.refl _ w).alloc (Nat.le_refl _) _, fun hn => absurd hn (by simp [cat_zero])⟩
    · obtain ⟨b, o, rfl, hc⟩ := h.cells h1
      rcases Nat.lt_or_ge n 2 with h2 | h2
      · obtain rfl : n = 1 := by omega
        obtain ⟨hcell, hs⟩ := hc 0 (by omega)
        have e1 : cat X 1 = X 0 := by simp [cat]
        rw [Nat.add_zero] at hcell
        rcases Nat.eq_zero_or_pos (X 0).length with hz | hz
        · rw [hz] at hcell
          refine (Tryd.bytes_Join_one_empty b o c (V 0) (C 0) (.slice none 0 0) w hcell).mono ?_
          rintro e w' ⟨rfl, rfl⟩
          have e2 : X 0 = [] := List.eq_nil_of_length_eq_zero hz
          rw [e1, e2]
          exact ⟨none, 0, rfl, Sl.nil _, Below.refl _ _, fun hn => absurd hn (by simp)⟩
        · obtain ⟨b0, o0, hV, _⟩ := hs.bytes hz
          have hh := holds_part hs
          obtain ⟨p, cp, e, _, hcs⟩ := hh
          injection e with e3 e4 e5
          subst e3 e5
          rw [e4, hV] at hcell
          refine (Tryd.bytes_Join_one b o c ⟨b0, o0, none⟩ (C 0) (Lib.bytesOf (X 0)) (.slice none 0 0) w hcell (hcs _ hV) (by rw [Lib.bytesOf_length]; exact hz) (by rw [Lib.bytesOf_length, ← e1]; exact hlen)).mono ?_
          rintro e w' ⟨v', rfl, hf, hp⟩
          rw [← e1] at hf
          exact joined_of_fresh hrng hf hp
      · refine (Tryd.bytes_Join_many b o n c ((List.range n).map fun i => .slice (V i) (X i).length (C i)) ((List.range n).map fun i => Lib.bytesOf (X i)) (.slice none 0 0) [] w (by simp) h2 ⟨by simp, ?_, ?_⟩ h.cap ⟨none, 0, rfl, fun _ => rfl, fun a ha => by cases ha⟩ hn47 ?_).mono ?_
        · intro i v hv
          have hi : i < n := by simpa using (List.getElem?_eq_some_iff.1 hv).1
          rw [add_none, (hc i hi).1, ← hv]
          simp [hi]
        · intro i v l hv hl
          have hi : i < n := by simpa using (List.getElem?_eq_some_iff.1 hv).1
          simp [hi] at hv hl
          subst hv hl
          exact holds_part (hc i hi).2
        · have e : Lib.lens ((List.range n).map fun i => Lib.bytesOf (X i)) = (cat X n).length := by
            rw [← Lib.bytesOf_length (cat X n), ← bytesOf_cat, List.length_flatten]
            rfl
          rw [e]
          simpa using hlen
        · rintro e w' ⟨v', rfl, hf, hp⟩
          rw [join_nil_sep, bytesOf_cat] at hf
          exact joined_of_fresh hrng hf hp
  have H := Lib.hid key
  clear key h
  go_enter Tryd.func48, Tryd.ntmps48
  go_wp2_with fail
  refine H.out.mono ?_
  rintro e w' ⟨A, d, rfl, hs, hp, hw⟩
  have HJ : Hid (Joined w (cat X n) (.returned (.slice A (cat X n).length d)) w') := ⟨A, d, rfl, hs, hp, hw⟩
  clear hs hp hw H
  generalize (cat X n).length = k at HJ ⊢
  go_wp2
  go_ret
  exact HJ.out

end Go.Proofs.YtdpnfojpeafdhaaDoor
