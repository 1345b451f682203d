/- The program's small functions of package cbor: a byte of a text, what a number needs, the order of two keys, the parts of an item. The program's search for a byte that no text has; the number of an item, and whether it has the parts of its kind. The number of an item, and whether it has the parts of its kind. Whether an item by itself is as defined: the program's hasItsFields. -/
import Derived.Test.YtmhgpdfllpgjpaaDoorRef10F
import Derived.Lib.BytesEntry
import Derived.Lib.Bytealg
import Derived.Laws.Externs
import Derived.Test.YtmhgpdfllpgjpaaDoorRd10A
import Derived.Shelf.Abstract
namespace Go.Proofs.YtmhgpdfllpgjpaaDoor
open Go.RowKit
set_option linter.unusedVariables false

/-- A byte that no text has. -/
def noTxt (x : Int) : Bool := !decide (32 ≤ x ∧ x ≤ 126)
theorem noText_any (x : Int) (w : World) : Calls Tryd.prog 66 #[.int .u8 x] w fun e w' => e = .returned (.bool (noTxt x)) ∧ w = w' := by
  by_cases h1 : x < 32
  · have HR : Hid (noTxt x = true) := Lib.hid (by unfold noTxt; simp; omega)
    go_enter Tryd.func66, Tryd.ntmps66
    go_wp2_with fail
    go_ret
    exact ⟨by rw [HR.out]; rfl, rfl⟩
  · by_cases h2 : 126 < x
    · have HR : Hid (noTxt x = true) := Lib.hid (by unfold noTxt; simp; omega)
      go_enter Tryd.func66, Tryd.ntmps66
      go_wp2_with fail
      go_ret
      exact ⟨by rw [HR.out]; rfl, rfl⟩
    · have HR : Hid (noTxt x = false) := Lib.hid (by unfold noTxt; simp; omega)
      go_enter Tryd.func66, Tryd.ntmps66
      go_wp2_with fail
      go_ret
      exact ⟨by rw [HR.out]; rfl, rfl⟩

theorem further10_any (n : Nat) (w : World) : Calls Tryd.prog 54 #[.int .u64 (n : Int)] w fun e w' => e = .returned (.int .i64 (hsz n : Int)) ∧ w = w' := by
  by_cases h1 : n < 24
  · have HR : Hid (hsz n = 0) := Lib.hid (by unfold hsz; rw [if_pos h1])
    have hi : (n : Int) < 24 := by omega
    clear h1
    go_enter Tryd.func54, Tryd.ntmps54
    go_wp2_with fail
    go_ret
    exact ⟨by rw [HR.out]; rfl, rfl⟩
  have h1i : ¬ (n : Int) < 24 := by omega
  by_cases h2 : n < 256
  · have HR : Hid (hsz n = 1) := Lib.hid (by unfold hsz; rw [if_neg h1, if_pos h2])
    have hi : (n : Int) < 256 := by omega
    clear h1 h2
    go_enter Tryd.func54, Tryd.ntmps54
    go_wp2_with fail
    go_ret
    exact ⟨by rw [HR.out]; rfl, rfl⟩
  have h2i : ¬ (n : Int) < 256 := by omega
  by_cases h3 : n < 65536
  · have HR : Hid (hsz n = 2) := Lib.hid (by unfold hsz; rw [if_neg h1, if_neg h2, if_pos h3])
    have hi : (n : Int) < 65536 := by omega
    clear h1 h2 h3
    go_enter Tryd.func54, Tryd.ntmps54
    go_wp2_with fail
    go_ret
    exact ⟨by rw [HR.out]; rfl, rfl⟩
  have h3i : ¬ (n : Int) < 65536 := by omega
  by_cases h4 : n < 4294967296
  · have HR : Hid (hsz n = 4) := Lib.hid (by unfold hsz; rw [if_neg h1, if_neg h2, if_neg h3, if_pos h4])
    have hi : (n : Int) < 4294967296 := by omega
    clear h1 h2 h3 h4
    go_enter Tryd.func54, Tryd.ntmps54
    go_wp2_with fail
    go_ret
    exact ⟨by rw [HR.out]; rfl, rfl⟩
  · have HR : Hid (hsz n = 8) := Lib.hid (by unfold hsz; rw [if_neg h1, if_neg h2, if_neg h3, if_neg h4])
    have hi : ¬ (n : Int) < 4294967296 := by omega
    clear h1 h2 h3 h4
    go_enter Tryd.func54, Tryd.ntmps54
    go_wp2_with fail
    go_ret
    exact ⟨by rw [HR.out]; rfl, rfl⟩

/-! ### The order of two keys -/
theorem u8_lt (x y : Int) (hx : 0 ≤ x ∧ x < 256) (hy : 0 ≤ y ∧ y < 256) : UInt8.ofNat x.toNat < UInt8.ofNat y.toNat ↔ x < y := by
  rw [UInt8.lt_iff_toNat_lt, UInt8.toNat_ofNat', UInt8.toNat_ofNat', Nat.mod_eq_of_lt (by omega), Nat.mod_eq_of_lt (by omega)]
  omega
theorem befB_cmp : ∀ xs ys : List Int, (∀ x ∈ xs, 0 ≤ x ∧ x < 256) → (∀ x ∈ ys, 0 ≤ x ∧ x < 256) → decide (Lib.compareBytes (Lib.bytesOf xs) (Lib.bytesOf ys) < 0) = befB xs ys
  | [], [], _, _ => rfl
  | [], _ :: _, _, _ => rfl
  | _ :: _, [], _, _ => rfl
  | x :: xs, y :: ys, hx, hy => by
    have hx0 := hx x List.mem_cons_self
    have hy0 := hy y List.mem_cons_self
    have ih := befB_cmp xs ys (fun z hz => hx z (List.mem_cons_of_mem _ hz)) (fun z hz => hy z (List.mem_cons_of_mem _ hz))
    have h1 := u8_lt x y hx0 hy0
    have h2 := u8_lt y x hy0 hx0
    show decide ((if UInt8.ofNat x.toNat < UInt8.ofNat y.toNat then -1 else if UInt8.ofNat y.toNat < UInt8.ofNat x.toNat then 1 else Lib.compareBytes (Lib.bytesOf xs) (Lib.bytesOf ys)) < 0) = if x = y then befB xs ys else decide (x < y)
    by_cases hlt : x < y
    · rw [if_pos (h1.2 hlt), if_neg (by omega), decide_eq_true hlt]
      rfl
    · rw [if_neg (fun h => hlt (h1.1 h))]
      by_cases hgt : y < x
      · rw [if_pos (h2.2 hgt), if_neg (by omega), decide_eq_false hlt]
        rfl
      · rw [if_neg (fun h => hgt (h2.1 h)), if_pos (by omega), ih]

theorem bytesOf_sl {w : World} {A : Option Addr} {n c : Nat} {xs : List Int} (h : Sl w A n c xs) : (Extern.Bytes.bytesOf (.slice A n c)).run Tryd.prog w = .ok ⟨(Lib.bytesOf xs).toArray⟩ w := by
  cases A with
  | none =>
    have hc := h.nil0 rfl
    have hn : n = 0 := by have := h.cap; omega
    subst hn
    obtain rfl : xs = [] := List.eq_nil_of_length_eq_zero h.len
    rfl
  | some a =>
    have hl := Lib.run_loadBytesX (P := Tryd.prog) w xs a .empty (fun j x hj => h.cells j (.int .u8 x) (by rw [List.getElem?_map, hj]; rfl))
    rw [h.len] at hl
    have he : (⟨ByteArray.empty.data ++ (Lib.bytesOf xs).toArray⟩ : ByteArray) = ⟨(Lib.bytesOf xs).toArray⟩ := by
      apply ByteArray.ext
      show (#[] : Array UInt8) ++ (Lib.bytesOf xs).toArray = (Lib.bytesOf xs).toArray
      simp
    rw [he] at hl
    exact hl
theorem run_cmp {w : World} {A B : Option Addr} {n c m d : Nat} {xs ys : List Int} (h : Sl w A n c xs) (k : Sl w B m d ys) :
    (Extern.BytealgCompare.compare #[.slice A n c, .slice B m d]).run Tryd.prog w = .ok (.int .i64 (Lib.compareBytes (Lib.bytesOf xs) (Lib.bytesOf ys))) w := by
  change Sem.run Tryd.prog (do pure (goInt (Extern.BytealgCompare.cmp (← Extern.Bytes.bytesOf (.slice A n c)) (← Extern.Bytes.bytesOf (.slice B m d))))) w = _
  simp only [Sem.run_bind, Sem.run_pure, bytesOf_sl h, bytesOf_sl k, Result.andThen]
  rw [Lib.cmp_eq]
  rfl

theorem ascend_any {w : World} {A B : Option Addr} {n c m d : Nat} {xs ys : List Int} (h : Sl w A n c xs) (k : Sl w B m d ys) :
    Calls Tryd.prog 57 #[.slice A n c, .slice B m d] w fun e w' => e = .returned (.bool (befB xs ys)) ∧ w = w' := by
  have HB := Lib.hid (befB_cmp xs ys h.rng k.rng)
  have HC := Lib.hid (run_cmp h k)
  have HX : ∀ w', (callFunc 86 #[.slice A n c, .slice B m d]).run Tryd.prog w' = ((Extern.BytealgCompare.compare #[.slice A n c, .slice B m d]).run Tryd.prog w').andThen fun v w' => .ok (.value v) w' := fun w' =>
    run_callFunc_extern Tryd.func86 (by kernel_rfl) (by kernel_rfl) (by kernel_rfl) (e := Extern.BytealgCompare.compare) (by kernel_rfl) _ w'
  have H1 : Calls Tryd.prog 75 #[.slice A n c, .slice B m d] w fun e w' => e = .returned (.int .i64 (Lib.compareBytes (Lib.bytesOf xs) (Lib.bytesOf ys))) ∧ w = w' := by
    clear HB h k
    go_enter Tryd.func75, Tryd.ntmps75
    go_wp2
    rw [HC.out]
    simp only [Result.andThen]
    rw [Oper.upon_value]
    go_wp2
    go_ret
    exact ⟨rfl, rfl⟩
  clear HC HX h k
  generalize Lib.compareBytes (Lib.bytesOf xs) (Lib.bytesOf ys) = q at *
  have HH := Lib.hid H1
  clear H1
  go_enter Tryd.func57, Tryd.ntmps57
  go_wp2_with fail
  refine HH.out.mono ?_
  rintro e w' ⟨rfl, rfl⟩
  go_wp2_with fail
  go_ret
  exact ⟨by rw [← HB.out]; rfl, rfl⟩

end Go.Proofs.YtmhgpdfllpgjpaaDoor

namespace Go.Proofs.YtmhgpdfllpgjpaaDoor
open Go.RowKit
set_option linter.unusedVariables false

theorem findBad_cons (x : Int) (xs : List Int) (i : Nat) : findBad (x :: xs) i = if 32 ≤ x ∧ x ≤ 126 then findBad xs (i + 1) else some i := rfl
theorem findBad_add : ∀ (xs : List Int) (p i : Nat), findBad xs (p + i) = (findBad xs i).map (p + ·)
  | [], _, _ => rfl
  | x :: xs, p, i => by
    rw [findBad_cons, findBad_cons]
    by_cases h : 32 ≤ x ∧ x ≤ 126
    · rw [if_pos h, if_pos h, Nat.add_assoc]
      exact findBad_add xs p (i + 1)
    · rw [if_neg h, if_neg h]
      rfl
theorem findBad_ascii : ∀ (xs : List Int) (i : Nat), (findBad xs i).isNone = asciiB xs
  | [], _ => rfl
  | x :: xs, i => by
    rw [findBad_cons]
    show _ = (decide (32 ≤ x ∧ x ≤ 126) && asciiB xs)
    by_cases h : 32 ≤ x ∧ x ≤ 126
    · rw [if_pos h, decide_eq_true h, Bool.true_and]
      exact findBad_ascii xs (i + 1)
    · rw [if_neg h, decide_eq_false h]
      rfl
theorem findBad_le : ∀ (xs : List Int) (i j : Nat), findBad xs i = some j → i ≤ j ∧ j < i + xs.length
  | [], _, _, h => by cases h
  | x :: xs, i, j, h => by
    rw [findBad_cons] at h
    by_cases hx : 32 ≤ x ∧ x ≤ 126
    · rw [if_pos hx] at h
      have := findBad_le xs (i + 1) j h
      simp only [List.length_cons]
      omega
    · rw [if_neg hx] at h
      injection h with h
      subst h
      simp only [List.length_cons]
      omega
/-- Where the search stands when the first i bytes are those of a text. -/
theorem findBad_step (xs : List Int) (i : Nat) (hi : i < xs.length) : findBad (xs.drop i) i = if noTxt (xs.getD i 0) = true then some i else findBad (xs.drop (i + 1)) (i + 1) := by
  have ed : xs.drop i = xs.getD i 0 :: xs.drop (i + 1) := by
    rw [List.drop_eq_getElem_cons hi, List.getD_eq_getElem?_getD, List.getElem?_eq_getElem hi]
    rfl
  rw [ed, findBad_cons]
  by_cases h : 32 ≤ xs.getD i 0 ∧ xs.getD i 0 ≤ 126
  · rw [if_pos h, if_neg (by unfold noTxt; rw [decide_eq_true h]; decide)]
  · rw [if_neg h, if_pos (by unfold noTxt; rw [decide_eq_false h]; rfl)]
/-- The place of a byte that no text has, or -1. -/
def badI (o : Option Nat) : Int := match o with
  | none => -1
  | some i => (i : Int)

abbrev noF : Value := .func (.func 66) #[] #[]
set_option maxHeartbeats 1000000 in
theorem indexBad_any {w : World} {A : Option Addr} {n c : Nat} {xs : List Int} (h : Sl w A n c xs) (hn : n ≤ 10000000) :
    Calls Tryd.prog 65 #[.slice A n c, noF] w fun e w' => e = .returned (.int .i64 (badI (findBad xs 0))) ∧ w = w' := by
  have HC := Lib.hid (fun x => noText_any x w)
  have HS := Lib.hid h
  have HL := Lib.hid h.len
  have eg : ∀ args w, (callFunc 66 args).run Tryd.prog w = .ok (.enter 66 args) w := enters_of Tryd.func66 (by kernel_rfl) rfl
  clear h
  go_enter Tryd.func65, Tryd.ntmps65
  go_wp2
  go_loopg [5, 8] n (fun k _ s8 wr => ∃ i : Nat, i ≤ n ∧ k = n - i ∧ s8 = .int .i64 (i : Int) ∧ Hid (findBad xs 0 = findBad (xs.drop i) i) ∧ Hid (w = wr))
  case atStart => exact ⟨0, Nat.zero_le _, rfl, rfl, Lib.hid rfl, Lib.hid rfl⟩
  case round =>
    obtain ⟨i, hin, hgk, rfl, HW, hwr⟩ := hrel
    have hwr' := hwr.out
    subst hwr'
    have HGK := Lib.hid hgk
    clear hgk hwr
    by_cases hlt : i < n
    · obtain ⟨b, o, rfl, hc⟩ := HS.out.bytes (by omega)
      have hx := hc i hlt
      have hi0 : (0 : Int) ≤ (i : Int) := by omega
      have hin1 : (i : Int) < (n : Int) := by omega
      have HT := Lib.hid (findBad_step xs i (by rw [HL.out]; exact hlt))
      clear hc
      generalize xs.getD i 0 = x at *
      have HCX := Lib.hid (HC.out x)
      cases hq : noTxt x with
      | true =>
        rw [hq] at HCX
        have HR : Hid (findBad xs 0 = some i) := Lib.hid (by rw [HW.out, HT.out, if_pos hq])
        clear hq HT HW HC
        go_wp2_with fail
        refine HCX.out.mono ?_
        rintro e w' ⟨rfl, rfl⟩
        go_wp2_with fail
        go_ret
        exact ⟨by rw [HR.out]; rfl, rfl⟩
      | false =>
        rw [hq] at HCX
        have HR : Hid (findBad xs 0 = findBad (xs.drop (i + 1)) (i + 1)) := Lib.hid (by rw [HW.out, HT.out, if_neg (by rw [hq]; decide)])
        clear hq HT HW
        go_wp2_with fail
        refine HCX.out.mono ?_
        rintro e w' ⟨rfl, rfl⟩
        go_wp2_with fail
        go_roundg (n - (i + 1))
        case measure => have := HGK.out; omega
        case rel => exact ⟨i + 1, by omega, rfl, by go_num, HR, Lib.hid rfl⟩
    · obtain rfl : i = n := by omega
      have HR : Hid (findBad xs 0 = none) := Lib.hid (by rw [HW.out, List.drop_of_length_le (by rw [HL.out]; exact Nat.le_refl _)]; rfl)
      clear HW
      go_wp2_with fail
      go_ret
      exact ⟨by rw [HR.out]; rfl, rfl⟩
theorem containsBad_any {w : World} {A : Option Addr} {n c : Nat} {xs : List Int} (h : Sl w A n c xs) (hn : n ≤ 10000000) :
    Calls Tryd.prog 72 #[.slice A n c, noF] w fun e w' => e = .returned (.bool (!asciiB xs)) ∧ w = w' := by
  have HI := Lib.hid (indexBad_any h hn)
  have HB : Hid (decide (0 ≤ badI (findBad xs 0)) = !asciiB xs) := Lib.hid (by
    rw [← findBad_ascii xs 0]
    cases findBad xs 0 with
    | none => rfl
    | some i => show decide (0 ≤ (i : Int)) = true; exact decide_eq_true (by omega))
  clear h
  generalize badI (findBad xs 0) = r at *
  go_enter Tryd.func72, Tryd.ntmps72
  go_wp2_with fail
  refine HI.out.mono ?_
  rintro e w' ⟨rfl, rfl⟩
  go_wp2_with fail
  go_ret
  exact ⟨by rw [← HB.out]; rfl, rfl⟩

end Go.Proofs.YtmhgpdfllpgjpaaDoor

namespace Go.Proofs.YtmhgpdfllpgjpaaDoor
open Go.RowKit
set_option linter.unusedVariables false

abbrev item4 (kd nm : Int) (A : Option Addr) (n c : Nat) (K : Option Addr) (m d : Nat) : Array Value := #[.int .i64 kd, .int .u64 nm, .slice A n c, .slice K m d]
/-- An item in a block of its own, in a new world. -/
def Box1 (w wx : World) (cs : Array Value) : Prop := Past w wx ∧ Row wx w.heap.size 27 cs
theorem box1 (w : World) (cs : Array Value) : Box1 w (w.alloc (.cells cs 27)) cs := ⟨past_alloc8 _ _, Row.new _ _ _⟩

set_option maxHeartbeats 1000000 in
theorem number_any (kd nm : Int) (A : Option Addr) (n c : Nat) (K : Option Addr) (m d : Nat) (w : World) (hnm : 0 ≤ nm) (hn : n ≤ 4611686018427387904) (hm : m ≤ 4611686018427387904) :
    Calls Tryd.prog 55 #[.agg (item4 kd nm A n c K m d)] w fun e w' => e = .returned (.int .u64 (numOf kd nm n m : Int)) ∧ Past w w' := by
  have HR := Lib.hid (box1 w (item4 kd nm A n c K m d))
  have hn0 : (n : Int) ≤ 4611686018427387904 := by omega
  have hm0 : (m : Int) ≤ 4611686018427387904 := by omega
  by_cases h2 : kd = 2
  · subst h2
    have HN : Hid (numOf 2 nm n m = n) := Lib.hid (by simp [numOf])
    go_enter Tryd.func55, Tryd.ntmps55
    go_wp2_with fail
    go_ret
    exact ⟨by rw [HN.out]; rfl, HR.out.1⟩
  by_cases h3 : kd = 3
  · subst h3
    have HN : Hid (numOf 3 nm n m = n) := Lib.hid (by simp [numOf])
    go_enter Tryd.func55, Tryd.ntmps55
    go_wp2_with fail
    go_ret
    exact ⟨by rw [HN.out]; rfl, HR.out.1⟩
  have b2 : (kd == 2) = false := by simpa using h2
  have b3 : (kd == 3) = false := by simpa using h3
  by_cases h4 : kd = 4
  · subst h4
    have HN : Hid (numOf 4 nm n m = m) := Lib.hid (by simp [numOf])
    go_enter Tryd.func55, Tryd.ntmps55
    go_wp2_with fail
    go_ret
    exact ⟨by rw [HN.out]; rfl, HR.out.1⟩
  have b4 : (kd == 4) = false := by simpa using h4
  by_cases h5 : kd = 5
  · subst h5
    have HN : Hid ((numOf 5 nm n m : Int) = (m : Int) / 2) := Lib.hid (by simp [numOf])
    have hq : (m : Int).tdiv 2 = (m : Int) / 2 := Int.tdiv_eq_ediv_of_nonneg (by omega)
    have hw1 : IntKind.i64.wrap ((m : Int) / 2) = (m : Int) / 2 := by rw [IntKind.wrap_i64]; omega
    have hw2 : IntKind.u64.wrap ((m : Int) / 2) = (m : Int) / 2 := by rw [IntKind.wrap_u64]; omega
    go_enter Tryd.func55, Tryd.ntmps55
    go_wp2_with fail
    go_ret
    exact ⟨by rw [HN.out]; rfl, HR.out.1⟩
  have b5 : (kd == 5) = false := by simpa using h5
  have HN : Hid ((numOf kd nm n m : Int) = nm) := Lib.hid (by
    unfold numOf
    rw [if_neg (by omega), if_neg h4, if_neg h5]
    exact Int.toNat_of_nonneg hnm)
  clear h2 h3 h4 h5
  go_enter Tryd.func55, Tryd.ntmps55
  go_wp2_with fail
  go_ret
  exact ⟨by rw [HN.out]; rfl, HR.out.1⟩

/-- Whether an item by itself is as defined. -/
def hasB (kd nm : Int) (bs : List Int) (m : Nat) : Bool := okB kd nm bs.length m && (!decide (kd = 3) || asciiB bs)
theorem hasB_01 (kd nm : Int) (bs : List Int) (m : Nat) (h : kd = 0 ∨ kd = 1) : hasB kd nm bs m = ((bs.length == 0) && (m == 0)) := by
  unfold hasB okB
  rcases h with rfl | rfl
  all_goals
    rw [Bool.eq_iff_iff]
    simp
    try omega
theorem hasB_2 (nm : Int) (bs : List Int) (m : Nat) (h0 : 0 ≤ nm) : hasB 2 nm bs m = ((nm == 0) && (m == 0)) := by
  unfold hasB okB
  rw [Bool.eq_iff_iff]
  simp
  try omega
theorem hasB_3 (nm : Int) (bs : List Int) (m : Nat) (h0 : 0 ≤ nm) : hasB 3 nm bs m = (((nm == 0) && (m == 0)) && asciiB bs) := by
  unfold hasB okB
  rw [Bool.eq_iff_iff]
  simp
  try omega
theorem hasB_4 (nm : Int) (bs : List Int) (m : Nat) (h0 : 0 ≤ nm) : hasB 4 nm bs m = ((nm == 0) && (bs.length == 0)) := by
  unfold hasB okB
  rw [Bool.eq_iff_iff]
  simp
  try omega
theorem hasB_5 (nm : Int) (bs : List Int) (m : Nat) (h0 : 0 ≤ nm) : hasB 5 nm bs m = (((nm == 0) && (bs.length == 0)) && (m % 2 == 0)) := by
  unfold hasB okB
  rw [Bool.eq_iff_iff]
  simp
  try omega
theorem hasB_no (kd nm : Int) (bs : List Int) (m : Nat) (h : ¬ (0 ≤ kd ∧ kd ≤ 5)) : hasB kd nm bs m = false := by
  unfold hasB okB
  rw [decide_eq_false h]
  rfl

end Go.Proofs.YtmhgpdfllpgjpaaDoor

namespace Go.Proofs.YtmhgpdfllpgjpaaDoor
open Go.RowKit
set_option linter.unusedVariables false

set_option maxHeartbeats 1000000 in
theorem hasIts_any (kd nm : Int) (A : Option Addr) (n c : Nat) (K : Option Addr) (m d : Nat) (bs : List Int) (w0 w : World) (hp0 : Past w0 w) (hS : Sl w0 A n c bs) (hnm : 0 ≤ nm) (hn : n ≤ 10000000) :
    Calls Tryd.prog 53 #[.agg (item4 kd nm A n c K m d)] w fun e w' => e = .returned (.bool (hasB kd nm bs m)) ∧ Past w w' := by
  have HR := Lib.hid (box1 w (item4 kd nm A n c K m d))
  have hl := hS.len
  have en : ((n : Int) == 0) = (n == 0) := by rw [Bool.eq_iff_iff]; simp
  have em : ((m : Int) == 0) = (m == 0) := by rw [Bool.eq_iff_iff]; simp
  have HCB := Lib.hid (fun w1 (hp : Past w0 w1) => containsBad_any (hS.past hp) hn)
  have HP0 := Lib.hid (hp0.trans' HR.out.1)
  by_cases h0 : kd = 0
  · subst h0
    have hb := hasB_01 0 nm bs m (by omega)
    rw [hl] at hb
    by_cases hn0 : n = 0
    · have HN : Hid (hasB 0 nm bs m = (m == 0)) := Lib.hid (by rw [hb, show (n == 0) = true by simpa using hn0, Bool.true_and])
      have e1 : ((n : Int) == 0) = true := by rw [en]; simpa using hn0
      clear hb hn0 en hS hp0 HCB
      go_enter Tryd.func53, Tryd.ntmps53
      go_wp2_with fail
      go_ret
      exact ⟨by rw [HN.out]; rfl, HR.out.1⟩
    · have HN : Hid (hasB 0 nm bs m = false) := Lib.hid (by rw [hb, show (n == 0) = false by simpa using hn0, Bool.false_and])
      have e1 : ((n : Int) == 0) = false := by rw [en]; simpa using hn0
      clear hb hn0 en hS hp0 HCB
      go_enter Tryd.func53, Tryd.ntmps53
      go_wp2_with fail
      go_ret
      exact ⟨by rw [HN.out]; rfl, HR.out.1⟩
  have b0 : (kd == 0) = false := by simpa using h0
  by_cases h1 : kd = 1
  · subst h1
    have hb := hasB_01 1 nm bs m (by omega)
    rw [hl] at hb
    by_cases hn0 : n = 0
    · have HN : Hid (hasB 1 nm bs m = (m == 0)) := Lib.hid (by rw [hb, show (n == 0) = true by simpa using hn0, Bool.true_and])
      have e1 : ((n : Int) == 0) = true := by rw [en]; simpa using hn0
      clear hb hn0 en hS hp0 HCB
      go_enter Tryd.func53, Tryd.ntmps53
      go_wp2_with fail
      go_ret
      exact ⟨by rw [HN.out]; rfl, HR.out.1⟩
    · have HN : Hid (hasB 1 nm bs m = false) := Lib.hid (by rw [hb, show (n == 0) = false by simpa using hn0, Bool.false_and])
      have e1 : ((n : Int) == 0) = false := by rw [en]; simpa using hn0
      clear hb hn0 en hS hp0 HCB
      go_enter Tryd.func53, Tryd.ntmps53
      go_wp2_with fail
      go_ret
      exact ⟨by rw [HN.out]; rfl, HR.out.1⟩
  have b1 : (kd == 1) = false := by simpa using h1
  by_cases h2 : kd = 2
  · subst h2
    have hb := hasB_2 nm bs m hnm
    by_cases hn0 : nm = 0
    · have HN : Hid (hasB 2 nm bs m = (m == 0)) := Lib.hid (by rw [hb, show (nm == 0) = true by simpa using hn0, Bool.true_and])
      have e1 : (nm == 0) = true := by simpa using hn0
      clear hb hn0 en hS hp0 HCB
      go_enter Tryd.func53, Tryd.ntmps53
      go_wp2_with fail
      go_ret
      exact ⟨by rw [HN.out]; rfl, HR.out.1⟩
    · have HN : Hid (hasB 2 nm bs m = false) := Lib.hid (by rw [hb, show (nm == 0) = false by simpa using hn0, Bool.false_and])
      have e1 : (nm == 0) = false := by simpa using hn0
      clear hb hn0 en hS hp0 HCB
      go_enter Tryd.func53, Tryd.ntmps53
      go_wp2_with fail
      go_ret
      exact ⟨by rw [HN.out]; rfl, HR.out.1⟩
  have b2 : (kd == 2) = false := by simpa using h2
  by_cases h3 : kd = 3
  · subst h3
    have hb := hasB_3 nm bs m hnm
    by_cases hn0 : nm = 0
    · have e1 : (nm == 0) = true := by simpa using hn0
      by_cases hm0 : m = 0
      · have HN : Hid (hasB 3 nm bs m = asciiB bs) := Lib.hid (by rw [hb, e1, show (m == 0) = true by simpa using hm0, Bool.true_and, Bool.true_and])
        have e2 : ((m : Int) == 0) = true := by rw [em]; simpa using hm0
        clear hb hn0 hm0 en em hS hp0
        generalize asciiB bs = q at *
        go_enter Tryd.func53, Tryd.ntmps53
        go_wp2_with fail
        refine (HCB.out _ HP0.out).mono ?_
        rintro e w' ⟨rfl, rfl⟩
        go_wp2_with fail
        go_ret
        exact ⟨by rw [HN.out]; simp, HR.out.1⟩
      · have HN : Hid (hasB 3 nm bs m = false) := Lib.hid (by rw [hb, e1, show (m == 0) = false by simpa using hm0, Bool.and_false, Bool.false_and])
        have e2 : ((m : Int) == 0) = false := by rw [em]; simpa using hm0
        clear hb hn0 hm0 en em hS hp0 HCB
        go_enter Tryd.func53, Tryd.ntmps53
        go_wp2_with fail
        go_ret
        exact ⟨by rw [HN.out]; rfl, HR.out.1⟩
    · have HN : Hid (hasB 3 nm bs m = false) := Lib.hid (by rw [hb, show (nm == 0) = false by simpa using hn0, Bool.false_and, Bool.false_and])
      have e1 : (nm == 0) = false := by simpa using hn0
      clear hb hn0 en hS hp0 HCB
      go_enter Tryd.func53, Tryd.ntmps53
      go_wp2_with fail
      go_ret
      exact ⟨by rw [HN.out]; rfl, HR.out.1⟩
  have b3 : (kd == 3) = false := by simpa using h3
  by_cases h4 : kd = 4
  · subst h4
    have hb := hasB_4 nm bs m hnm
    rw [hl] at hb
    by_cases hn0 : nm = 0
    · have HN : Hid (hasB 4 nm bs m = (n == 0)) := Lib.hid (by rw [hb, show (nm == 0) = true by simpa using hn0, Bool.true_and])
      have e1 : (nm == 0) = true := by simpa using hn0
      clear hb hn0 hS hp0 HCB
      go_enter Tryd.func53, Tryd.ntmps53
      go_wp2_with fail
      go_ret
      exact ⟨by rw [HN.out]; rfl, HR.out.1⟩
    · have HN : Hid (hasB 4 nm bs m = false) := Lib.hid (by rw [hb, show (nm == 0) = false by simpa using hn0, Bool.false_and])
      have e1 : (nm == 0) = false := by simpa using hn0
      clear hb hn0 hS hp0 HCB
      go_enter Tryd.func53, Tryd.ntmps53
      go_wp2_with fail
      go_ret
      exact ⟨by rw [HN.out]; rfl, HR.out.1⟩
  have b4 : (kd == 4) = false := by simpa using h4
  by_cases h5 : kd = 5
  · subst h5
    have hb := hasB_5 nm bs m hnm
    rw [hl] at hb
    have er : (m : Int).tmod 2 = ((m % 2 : Nat) : Int) := by rw [Int.tmod_eq_emod_of_nonneg (by omega)]; omega
    have ew : IntKind.i64.wrap ((m % 2 : Nat) : Int) = ((m % 2 : Nat) : Int) := by rw [IntKind.wrap_i64]; omega
    have e3 : (((m % 2 : Nat) : Int) == 0) = (m % 2 == 0) := by rw [Bool.eq_iff_iff]; simp; omega
    by_cases hn0 : nm = 0
    · have e1 : (nm == 0) = true := by simpa using hn0
      by_cases hm0 : n = 0
      · have HN : Hid (hasB 5 nm bs m = (m % 2 == 0)) := Lib.hid (by rw [hb, e1, show (n == 0) = true by simpa using hm0, Bool.true_and, Bool.true_and])
        have e2 : ((n : Int) == 0) = true := by rw [en]; simpa using hm0
        clear hb hn0 hm0 en em hS hp0 HCB
        generalize m % 2 = r at *
        go_enter Tryd.func53, Tryd.ntmps53
        go_wp2_with fail
        go_ret
        exact ⟨by rw [HN.out]; rfl, HR.out.1⟩
      · have HN : Hid (hasB 5 nm bs m = false) := Lib.hid (by rw [hb, e1, show (n == 0) = false by simpa using hm0, Bool.and_false, Bool.false_and])
        have e2 : ((n : Int) == 0) = false := by rw [en]; simpa using hm0
        clear hb hn0 hm0 en em hS hp0 HCB
        go_enter Tryd.func53, Tryd.ntmps53
        go_wp2_with fail
        go_ret
        exact ⟨by rw [HN.out]; rfl, HR.out.1⟩
    · have HN : Hid (hasB 5 nm bs m = false) := Lib.hid (by rw [hb, show (nm == 0) = false by simpa using hn0, Bool.false_and, Bool.false_and])
      have e1 : (nm == 0) = false := by simpa using hn0
      clear hb hn0 en hS hp0 HCB
      go_enter Tryd.func53, Tryd.ntmps53
      go_wp2_with fail
      go_ret
      exact ⟨by rw [HN.out]; rfl, HR.out.1⟩
  have b5 : (kd == 5) = false := by simpa using h5
  have HN : Hid (hasB kd nm bs m = false) := Lib.hid (hasB_no kd nm bs m (by omega))
  clear h0 h1 h2 h3 h4 h5 en em hS hp0 HCB
  go_enter Tryd.func53, Tryd.ntmps53
  go_wp2_with fail
  go_ret
  exact ⟨by rw [HN.out]; rfl, HR.out.1⟩

end Go.Proofs.YtmhgpdfllpgjpaaDoor
