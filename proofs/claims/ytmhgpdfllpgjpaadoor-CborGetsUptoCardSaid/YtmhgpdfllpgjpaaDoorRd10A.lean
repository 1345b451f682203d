/- What reading an item gives: by itself, without the program. -/
import Derived.Test.YtmhgpdfllpgjpaaDoorRef10F
namespace Go.Proofs.YtmhgpdfllpgjpaaDoor
open Go.RowKit
set_option linter.unusedVariables false

inductive R10 where
  | bad (code off : Nat)
  | good (t : T) (next : Nat)
instance : Inhabited R10 := ⟨.bad 0 0⟩

/-- How many bytes of a number follow a first byte with these lowest bits. -/
def szOf (low : Nat) : Nat := if low < 24 then 0 else if low = 24 then 1 else if low = 25 then 2 else if low = 26 then 4 else 8
def numAt (b : List Int) (p low : Nat) : Nat := if low < 24 then low else (beI ((b.drop (p + 1)).take (szOf low))).toNat
/-- The place of the first byte that is not one of a text. -/
def findBad : List Int → Nat → Option Nat
  | [], _ => none
  | x :: xs, i => if 32 ≤ x ∧ x ≤ 126 then findBad xs (i + 1) else some i
/-- So many items, one after another; of a map: pairs, in order. -/
def itemsR (rc : Nat → R10) (mp : Bool) : Nat → Nat → List T → (Nat × Nat) ⊕ (List T × Nat)
  | 0, nx, acc => .inr (acc, nx)
  | n + 1, nx, acc => match rc nx with
    | .bad c p => .inl (c, p)
    | .good k nk =>
      if mp = true then
        if acc ≠ [] ∧ befB (txt (acc.getD (acc.length - 2) default)) (txt k) = false then .inl (7, nx)
        else match rc nk with
          | .bad c p => .inl (c, p)
          | .good v nv => itemsR rc mp n nv (acc ++ [k, v])
      else itemsR rc mp n nk (acc ++ [k])
def rdW (rc : Nat → R10) (deep : Bool) (b : List Int) (p : Nat) : R10 :=
  if b.length ≤ p then .bad 3 b.length
  else if 5 < (b.getD p 0).toNat / 32 ∨ 27 < (b.getD p 0).toNat % 32 then .bad 5 p
  else if deep = true then .bad 2 p
  else if b.length < p + 1 + szOf ((b.getD p 0).toNat % 32) then .bad 3 b.length
  else if hsz (numAt b p ((b.getD p 0).toNat % 32)) ≠ szOf ((b.getD p 0).toNat % 32) then .bad 6 p
  else if (b.getD p 0).toNat / 32 < 2 then .good (.node ((b.getD p 0).toNat / 32 : Nat) (numAt b p ((b.getD p 0).toNat % 32) : Nat) [] []) (p + 1 + szOf ((b.getD p 0).toNat % 32))
  else if (b.getD p 0).toNat / 32 < 4 then
    if b.length - (p + 1 + szOf ((b.getD p 0).toNat % 32)) < numAt b p ((b.getD p 0).toNat % 32) then .bad 3 b.length
    else match (if (b.getD p 0).toNat / 32 = 3 then findBad ((b.drop (p + 1 + szOf ((b.getD p 0).toNat % 32))).take (numAt b p ((b.getD p 0).toNat % 32))) (p + 1 + szOf ((b.getD p 0).toNat % 32)) else none) with
      | some i => .bad 5 i
      | none => .good (.node ((b.getD p 0).toNat / 32 : Nat) 0 ((b.drop (p + 1 + szOf ((b.getD p 0).toNat % 32))).take (numAt b p ((b.getD p 0).toNat % 32))) []) (p + 1 + szOf ((b.getD p 0).toNat % 32) + numAt b p ((b.getD p 0).toNat % 32))
  else match itemsR rc ((b.getD p 0).toNat / 32 == 5) (numAt b p ((b.getD p 0).toNat % 32)) (p + 1 + szOf ((b.getD p 0).toNat % 32)) [] with
    | .inl (c, q) => .bad c q
    | .inr (ks, e) => .good (.node ((b.getD p 0).toNat / 32 : Nat) 0 [] ks) e
/-- Reading, with so many levels left. -/
def rd (b : List Int) : Nat → Nat → R10
  | 0 => rdW (fun _ => .bad 2 0) true b
  | f + 1 => rdW (rd b f) false b
/-- Parse, of at most 1048576 bytes. -/
def pars (b : List Int) : R10 := match rd b 8 0 with
  | .bad c p => .bad c p
  | .good t e => if e < b.length then .bad 4 e else .good t e

/-! ### A head -/
theorem beB_add (m : Nat) : ∀ (x y : Int) (k : Nat), m ≤ k → beB m (x + y * 256 ^ k) = beB m x := by
  induction m with
  | zero => intros; rfl
  | succ m ih =>
    intro x y k hk
    show ((x + y * 256 ^ k) / 256 ^ m % 256) :: beB m (x + y * 256 ^ k) = (x / 256 ^ m % 256) :: beB m x
    rw [ih x y k (by omega)]
    obtain ⟨j, rfl⟩ : ∃ j, k = m + 1 + j := ⟨k - (m + 1), by omega⟩
    have e : y * (256 : Int) ^ (m + 1 + j) = (y * 256 ^ j * 256) * 256 ^ m := by
      rw [Int.pow_add, Int.pow_succ]
      ac_rfl
    have hp : (256 : Int) ^ m ≠ 0 := by
      have : (0 : Int) < 256 ^ m := Int.pow_pos (by omega)
      omega
    rw [e, Int.add_mul_ediv_right _ _ hp, Int.add_mul_emod_self_right]
theorem beB_beI : ∀ l : List Int, (∀ x ∈ l, 0 ≤ x ∧ x < 256) → beB l.length (beI l) = l
  | [], _ => rfl
  | a :: l, h => by
    have hl : ∀ x ∈ l, 0 ≤ x ∧ x < 256 := fun x hx => h x (List.mem_cons_of_mem _ hx)
    have ha := h a List.mem_cons_self
    have hb := beI_bd l hl
    have hp : (0 : Int) < 256 ^ l.length := Int.pow_pos (by omega)
    rw [beI_cons]
    show ((a * 256 ^ l.length + beI l) / 256 ^ l.length % 256) :: beB l.length (a * 256 ^ l.length + beI l) = a :: l
    rw [Int.add_comm, beB_add l.length (beI l) a l.length (Nat.le_refl _), beB_beI l hl, Int.add_mul_ediv_right _ _ (by omega), Int.ediv_eq_zero_of_lt hb.1 hb.2, Int.zero_add, Int.emod_eq_of_lt ha.1 ha.2]
theorem low_of {n low : Nat} (hl : low ≤ 27) (hn : low < 24 → n = low) (h : hsz n = szOf low) : hlow n = low := by
  unfold hsz szOf at h
  unfold hlow
  repeat' split at h
  all_goals (repeat' split)
  all_goals omega
/-- The head that was read is that of its number. -/
theorem head_read (b : List Int) (hr : ∀ x ∈ b, 0 ≤ x ∧ x < 256) (p : Nat) (hp : p < b.length) (hl : (b.getD p 0).toNat % 32 ≤ 27) (hn : p + 1 + szOf ((b.getD p 0).toNat % 32) ≤ b.length)
    (hh : hsz (numAt b p ((b.getD p 0).toNat % 32)) = szOf ((b.getD p 0).toNat % 32)) :
    (b.drop p).take (1 + szOf ((b.getD p 0).toNat % 32)) = headB ((b.getD p 0).toNat / 32) (numAt b p ((b.getD p 0).toNat % 32)) := by
  have hx := hr (b.getD p 0) (by rw [List.getD_eq_getElem?_getD, List.getElem?_eq_getElem hp]; exact List.getElem_mem hp)
  have ed : b.drop p = b.getD p 0 :: b.drop (p + 1) := by
    rw [List.drop_eq_getElem_cons hp, List.getD_eq_getElem?_getD, List.getElem?_eq_getElem hp]
    rfl
  generalize hxx : b.getD p 0 = x at *
  have hlow := low_of (n := numAt b p (x.toNat % 32)) hl (by intro h; unfold numAt; rw [if_pos h]) hh
  unfold headB
  rw [hlow, hh, ed, Nat.add_comm 1, List.take_succ_cons]
  congr 1
  · omega
  · by_cases h24 : x.toNat % 32 < 24
    · have e0 : szOf (x.toNat % 32) = 0 := by unfold szOf; rw [if_pos h24]
      rw [e0]
      rfl
    · have el : ((b.drop (p + 1)).take (szOf (x.toNat % 32))).length = szOf (x.toNat % 32) := by rw [List.length_take, List.length_drop]; omega
      have hrr : ∀ y ∈ (b.drop (p + 1)).take (szOf (x.toNat % 32)), 0 ≤ y ∧ y < 256 := fun y hy => hr y (List.mem_of_mem_drop (List.mem_of_mem_take hy))
      have hbd := beI_bd _ hrr
      have en : ((numAt b p (x.toNat % 32) : Nat) : Int) = beI ((b.drop (p + 1)).take (szOf (x.toNat % 32))) := by
        unfold numAt
        rw [if_neg h24]
        exact Int.toNat_of_nonneg hbd.1
      rw [en]
      have := beB_beI _ hrr
      rw [el] at this
      exact this.symm
end Go.Proofs.YtmhgpdfllpgjpaaDoor
