/- The bytes of a length as the program writes them. -/
import Derived.Test.YtdpnfojpeafdhaaDoorJoin8
import Derived.Test.YtdpnfojpeafdhaaDoorWire5
import Derived.Test.YtdpnfojpeafdhaaDoorD8D
import Derived.Test.YtdpnfojpeafdhaaDoorRef8S
namespace Go.Proofs.YtdpnfojpeafdhaaDoor
open Go.RowKit
set_option linter.unusedVariables false

theorem beB_snoc : ∀ (n : Nat) (x : Nat), beB (n + 1) (x : Int) = beB n ((x / 256 : Nat) : Int) ++ [((x % 256 : Nat) : Int)]
  | 0, x => by
    simp only [beB, List.nil_append, Int.pow_zero, Int.ediv_one]
    congr 1
  | n + 1, x => by
    have ih := beB_snoc n x
    rw [show beB (n + 1 + 1) (x : Int) = (x : Int) / 256 ^ (n + 1) % 256 :: beB (n + 1) (x : Int) from rfl, ih]
    rw [show beB (n + 1) ((x / 256 : Nat) : Int) = ((x / 256 : Nat) : Int) / 256 ^ n % 256 :: beB n ((x / 256 : Nat) : Int) from rfl]
    rw [List.cons_append]
    congr 1
    have e : ((x / 256 : Nat) : Int) = (x : Int) / 256 := by omega
    rw [e, Int.ediv_ediv_of_nonneg (by omega), Int.pow_succ, Int.mul_comm]
theorem beB_numB (k : Nat) : ∀ x : Nat, x < 256 ^ k → beB k (x : Int) = List.replicate (k - (numB x).length) 0 ++ numB x := by
  induction k with
  | zero =>
    intro x hx
    obtain rfl : x = 0 := by simpa using hx
    rw [numB_zero]
    rfl
  | succ k ih =>
    intro x hx
    have e : 256 ^ (k + 1) = 256 * 256 ^ k := by rw [Nat.pow_succ, Nat.mul_comm]
    rw [beB_snoc, ih (x / 256) (by omega)]
    by_cases h0 : x = 0
    · subst h0
      rw [Nat.zero_div, numB_zero]
      simp only [List.append_nil, List.length_nil, Nat.sub_zero, Nat.zero_mod]
      exact (List.replicate_succ').symm
    · rw [numB_pos h0, List.length_append, List.append_assoc]
      congr 2
      simp only [List.length_cons, List.length_nil]
      omega
/-- The last bytes of a word are the least bytes of its number. -/
theorem tail_word (l : Nat) (hl : l < 4294967296) : ((beB 8 (l : Int)).drop (8 - (numB l).length)).take (numB l).length = numB l := by
  have hle := numB_le 4 l (by omega)
  rw [beB_numB 8 l (by omega), List.drop_append_of_le_length (by simp), List.drop_of_length_le (by simp), List.nil_append, List.take_length]

/-- Two parts in a block. -/
theorem Sls.two {w : World} {g : Nat} {t : TypeId} {A0 A1 : Option Addr} {c0 c1 : Nat} {xs ys : List Int} (hr : Row w g t #[.slice A0 xs.length c0, .slice A1 ys.length c1]) (h0 : Sl w A0 xs.length c0 xs) (h1 : Sl w A1 ys.length c1 ys) :
    Sls w (some ⟨g, 0, none⟩) 2 2 (fun i => if i = 0 then A0 else A1) (fun i => if i = 0 then c0 else c1) (fun i => if i = 0 then xs else ys) := by
  refine ⟨Nat.le_refl _, by unfold maxLen; omega, fun e => absurd e (by simp), fun _ => ⟨g, 0, rfl, fun i hi => ?_⟩⟩
  have : i = 0 ∨ i = 1 := by omega
  rcases this with rfl | rfl
  · exact ⟨hr.cell 0, h0⟩
  · exact ⟨hr.cell 1, h1⟩
theorem cat_two (xs ys : List Int) : cat (fun i => if i = 0 then xs else ys) 2 = xs ++ ys := by simp [cat, List.range_succ]
/-- Three parts in a block. -/
theorem Sls.three {w : World} {g : Nat} {t : TypeId} {A0 A1 A2 : Option Addr} {c0 c1 c2 : Nat} {xs ys zs : List Int} (hr : Row w g t #[.slice A0 xs.length c0, .slice A1 ys.length c1, .slice A2 zs.length c2]) (h0 : Sl w A0 xs.length c0 xs) (h1 : Sl w A1 ys.length c1 ys) (h2 : Sl w A2 zs.length c2 zs) :
    Sls w (some ⟨g, 0, none⟩) 3 3 (fun i => if i = 0 then A0 else if i = 1 then A1 else A2) (fun i => if i = 0 then c0 else if i = 1 then c1 else c2) (fun i => if i = 0 then xs else if i = 1 then ys else zs) := by
  refine ⟨Nat.le_refl _, by unfold maxLen; omega, fun e => absurd e (by simp), fun _ => ⟨g, 0, rfl, fun i hi => ?_⟩⟩
  have : i = 0 ∨ i = 1 ∨ i = 2 := by omega
  rcases this with rfl | rfl | rfl
  · exact ⟨hr.cell 0, h0⟩
  · exact ⟨hr.cell 1, h1⟩
  · exact ⟨hr.cell 2, h2⟩
theorem cat_three (xs ys zs : List Int) : cat (fun i => if i = 0 then xs else if i = 1 then ys else zs) 3 = xs ++ (ys ++ zs) := by simp [cat, List.range_succ]
theorem sl_one (w : World) (e : TypeId) (x : Int) (h : 0 ≤ x ∧ x < 256) : Sl (w.alloc (.cells #[.int .u8 x] e)) (some ⟨w.heap.size, 0, none⟩) 1 1 [x] :=
  Sl.of_own (own_one w e x rfl (Nat.le_refl _)) (by simpa using h)
theorem lenB_rng (l : Nat) : ∀ x ∈ lenB l, 0 ≤ x ∧ x < 256 ∨ 4294967296 ≤ l := by
  intro x hx
  by_cases hl : 4294967296 ≤ l
  · exact .inr hl
  · left
    unfold lenB at hx
    split at hx
    · obtain rfl : x = (l : Int) := by simpa using hx
      omega
    · rcases List.mem_cons.1 hx with rfl | hx
      · have := numB_le 4 l (by omega)
        omega
      · exact numB_rng l x hx

set_option maxRecDepth 100000 in
theorem slice_low (A : Option Addr) (n c : Nat) (l : Int) (h0 : 0 ≤ l) (h1 : l ≤ n) (w : World) : (Instr.slice 22 (.slice A n c) (some (.int .i64 l)) none none).run Tryd.prog w = .ok (.slice (if c = l.toNat then A else A.map (·.add l.toNat)) (n - l.toNat) (c - l.toNat)) w := by
  rw [run_slice_l (P := Tryd.prog) w 22 A n c Tryd.underlying22 .i64 l h0 h1]
  have hs : (sizeOf (Tryd.prog.elem 22)).run Tryd.prog w = .ok 1 w := by kernel_rfl
  rw [hs]
  simp only [Result.andThen, sliced]
  rw [Nat.mul_one]

set_option maxHeartbeats 1000000 in
theorem elen_any (l : Nat) (hl : l < 4294967296) (w : World) : Calls Tryd.prog 49 #[.int .i64 (l : Int)] w (Joined w (lenB l)) := by
  have HF := Lib.hid (fun w => further_any l hl w)
  by_cases h : l < 128
  · have h0 : furN l = 0 := by unfold furN; rw [if_pos h]
    have hb : lenB l = [(l : Int)] := by unfold lenB; rw [if_pos h]
    have hwr : IntKind.u8.wrap (l : Int) = (l : Int) := by rw [IntKind.wrap_u8]; omega
    have HO := Lib.hid (sl_one w 5 (l : Int) (by omega))
    rw [h0] at HF
    rw [hb]
    clear h hl h0 hb
    go_enter Tryd.func49, Tryd.ntmps49
    go_wp2_with fail
    refine (HF.out _).mono ?_
    rintro e w1 ⟨rfl, rfl⟩
    go_wp2_with fail
    go_ret
    exact ⟨some ⟨w.heap.size, 0, none⟩, 1, rfl, HO.out, past_alloc8 _ _, fun _ => ⟨w.heap.size, rfl, Nat.le_refl _, fun i _ => (Row.new w _ _).fr i⟩⟩
  · have h0 : furN l = (numB l).length := by unfold furN; rw [if_neg h]
    have hb : lenB l = ((128 + (numB l).length : Nat) : Int) :: numB l := by unfold lenB; rw [if_neg h]
    have hk := numB_le 4 l (by omega)
    have hk1 : 1 ≤ (numB l).length := by rw [numB_pos (by omega), List.length_append]; simp
    have HTW := Lib.hid (tail_word l hl)
    have hwr : IntKind.u64.wrap (l : Int) = (l : Int) := by rw [IntKind.wrap_u64]; omega
    have HPU := Lib.hid (fun w => put_ok 8 (l : Int) w (by decide) (by
      have : (l : Int) / 2 ^ (8 * 8) = 0 := Int.ediv_eq_zero_of_lt (by omega) (by omega)
      rw [this]
      rfl))
    have HBR := Lib.hid (beB_rng 8 (l : Int))
    have HBL := Lib.hid (beB_len 8 (l : Int))
    rw [h0] at HF
    rw [hb]
    have HBB := Lib.hid hb
    clear hb h0 h
    generalize beB 8 (l : Int) = B at *
    generalize hnb : numB l = N at *
    generalize hkk : N.length = k at *
    have HKK := Lib.hid hkk
    clear hkk hnb
    have hk0 : ((k : Int) == 0) = false := by simp; omega
    have hwk : IntKind.u8.wrap (k : Int) = (k : Int) := by rw [IntKind.wrap_u8]; omega
    have hwk2 : IntKind.u8.wrap (128 + (k : Int)) = 128 + (k : Int) := by rw [IntKind.wrap_u8]; omega
    have hk4i : (k : Int) ≤ 4 := by omega
    have hk1i : 1 ≤ (k : Int) := by omega
    go_enter Tryd.func49, Tryd.ntmps49
    go_wp2_with fail
    refine (HF.out _).mono ?_
    rintro e w1 ⟨rfl, rfl⟩
    go_wp2_with fail
    refine (HPU.out _).mono ?_
    rintro e w1 ⟨A, c, rfl, hown, hp⟩
    rw [HBL.out] at hown ⊢
    have hsl := Sl.of_own hown HBR.out
    have hcp := hsl.cap
    have hbg := hsl.big
    unfold maxLen at hbg
    obtain ⟨b, o, hA, _⟩ := hsl.bytes (by omega)
    subst hA
    have HS1 := Lib.hid hsl
    have HP1 := Lib.hid hp
    clear hown hp hsl HPU HF HBR HBL
    have hs1 : ∀ w : World, (Instr.slice 22 (.slice (some ⟨b, o, none⟩) 8 c) (some (.int .i64 (8 - (k : Int)))) none none).run Tryd.prog w = .ok (.slice (if c = 8 - k then some ⟨b, o, none⟩ else (some (⟨b, o, none⟩ : Addr)).map (·.add (8 - k))) k (c - (8 - k))) w := by
      intro w
      rw [slice_low (some ⟨b, o, none⟩) 8 c (8 - (k : Int)) (by omega) (by omega)]
      rw [show (8 - (k : Int)).toNat = 8 - k by omega, show 8 - (8 - k) = k by omega]
    have hcut := HS1.out.cut2 (i := 8 - k) (m := k) (by omega)
    rw [HTW.out] at hcut
    have HCT := Lib.hid hcut
    clear hcut
    generalize (if c = 8 - k then some (⟨b, o, none⟩ : Addr) else (some (⟨b, o, none⟩ : Addr)).map (·.add (8 - k))) = SA at *
    have hb1 : 0 ≤ 128 + (k : Int) ∧ 128 + (k : Int) < 256 := by omega
    have e2 : w1.heap.size + 1 = (w1.alloc (.cells #[.int .u8 (128 + (k : Int))] 5)).heap.size := by simp
    have hJ : Calls Tryd.prog 48 #[.slice (some ⟨w1.heap.size + 1, 0, none⟩) 2 2] ((w1.alloc (.cells #[.int .u8 (128 + (k : Int))] 5)).alloc (.cells #[.slice (some ⟨w1.heap.size, 0, none⟩) 1 1, .slice SA k (c - (8 - k))] 22)) (Joined ((w1.alloc (.cells #[.int .u8 (128 + (k : Int))] 5)).alloc (.cells #[.slice (some ⟨w1.heap.size, 0, none⟩) 1 1, .slice SA k (c - (8 - k))] 22)) ((128 + (k : Int)) :: N)) := by
      have hkk := HKK.out
      subst hkk
      have hs := Sls.two (xs := [128 + (N.length : Int)]) (ys := N) (Row.new (w1.alloc (.cells #[.int .u8 (128 + (N.length : Int))] 5)) 22 #[.slice (some ⟨w1.heap.size, 0, none⟩) 1 1, .slice SA N.length (c - (8 - N.length))]) ((sl_one w1 5 _ hb1).past (past_alloc8 _ _)) ((HCT.out.past (past_alloc8 _ _)).past (past_alloc8 _ _))
      rw [← e2] at hs
      have h := join_any _ 2 2 _ _ _ _ hs (by omega) (by rw [cat_two]; simp; omega)
      rw [cat_two] at h
      exact h
    have HPP : Hid (Past w ((w1.alloc (.cells #[.int .u8 (128 + (k : Int))] 5)).alloc (.cells #[.slice (some ⟨w1.heap.size, 0, none⟩) 1 1, .slice SA k (c - (8 - k))] 22))) := (HP1.out.trans' (past_alloc8 _ _)).trans' (past_alloc8 _ _)
    have HJ := Lib.hid hJ
    have HN1 : Hid ((((128 + k : Nat) : Int) :: N) = ((128 + (k : Int)) :: N)) := by
      show _ = _
      congr 1
    clear hJ e2
    go_wp2_with fail
    refine HJ.out.mono ?_
    rintro e w2 ⟨A2, c2, rfl, hs, hp, hf⟩
    have HH : Hid (Joined w (((128 + k : Nat) : Int) :: N) (.returned (.slice A2 ((128 + (k : Int)) :: N).length c2)) w2) := by
      rw [HN1.out]
      exact Lib.hid ⟨A2, c2, rfl, hs, HPP.out.trans' hp, fun h => by
        obtain ⟨g, hg, hlt, hfz⟩ := hf h
        have := HPP.out.size
        exact ⟨g, hg, by omega, hfz⟩⟩
    clear hs hp hf HJ
    generalize ((128 + (k : Int)) :: N).length = q at HH ⊢
    go_wp2_with fail
    go_ret
    exact HH.out

end Go.Proofs.YtdpnfojpeafdhaaDoor
