/- Split of package pyxref12: the lines of a string. -/
import Derived.Test.YtnnonidiogoffaaGreatDoorRf12B
namespace Go.Proofs.YtnnonidiogoffaaGreatDoor
open Go.RowKit
set_option linter.unusedVariables false

theorem spl_snoc (d : Int) (l : List Int) : ∀ (a : List (List Int)) (z : List Int), spl d l = a ++ [z] → spl d (l ++ [d]) = a ++ [z, []] ∧ ∀ c, c ≠ d → spl d (l ++ [c]) = a ++ [z ++ [c]] := by
  induction l with
  | nil =>
    intro a z h
    cases a with
    | nil =>
      simp [spl] at h
      subst h
      exact ⟨by simp [spl], fun c hc => by simp [spl, hc]⟩
    | cons p a => simp [spl] at h
  | cons x l ih =>
    intro a z h
    obtain ⟨a', z', h'⟩ : ∃ a' z', spl d l = a' ++ [z'] := ⟨_, _, (List.dropLast_concat_getLast (spl_ne d l)).symm⟩
    obtain ⟨h1, h2⟩ := ih a' z' h'
    by_cases hx : x = d
    · have e : spl d (x :: l) = [] :: spl d l := by rw [spl, if_pos hx]
      have e1 : ∀ m, spl d (x :: m) = [] :: spl d m := fun m => by rw [spl, if_pos hx]
      rw [e, h'] at h
      have h3 : ([] :: a') ++ [z'] = a ++ [z] := h
      obtain ⟨rfl, h4⟩ := List.append_inj' h3 rfl
      injection h4 with h4
      subst h4
      refine ⟨?_, fun c hc => ?_⟩
      · rw [List.cons_append, e1, h1]; rfl
      · rw [List.cons_append, e1, h2 c hc]; rfl
    · have e1 : ∀ m p ps, spl d m = p :: ps → spl d (x :: m) = (x :: p) :: ps := fun m p ps hm => by rw [spl, if_neg hx, hm]
      cases a' with
      | nil =>
        rw [e1 l z' [] h'] at h
        cases a with
        | nil =>
          injection h with h _
          subst h
          exact ⟨by rw [List.cons_append, e1 _ z' [[]] h1]; rfl, fun c hc => by rw [List.cons_append, e1 _ (z' ++ [c]) [] (h2 c hc)]; rfl⟩
        | cons p a => simp at h
      | cons p ps =>
        rw [e1 l p (ps ++ [z']) h'] at h
        have h3 : ((x :: p) :: ps) ++ [z'] = a ++ [z] := h
        obtain ⟨rfl, h4⟩ := List.append_inj' h3 rfl
        injection h4 with h4
        subst h4
        exact ⟨by rw [List.cons_append, e1 _ p (ps ++ [z', []]) h1]; rfl, fun c hc => by rw [List.cons_append, e1 _ p (ps ++ [z' ++ [c]]) (h2 c hc)]; rfl⟩
/-- What Split has after i bytes: the lines, and where the next one begins. -/
def SpI (xs : List Int) (i f : Nat) (ls : List (List Int)) : Prop := f ≤ i ∧ spl 10 (xs.take i) = ls ++ [(xs.take i).drop f]
theorem SpI.zero (xs : List Int) : SpI xs 0 0 [] := ⟨Nat.le_refl _, by simp [spl]⟩
theorem take_one {xs : List Int} {i : Nat} (h : i < xs.length) : xs.take (i + 1) = xs.take i ++ [xs.getD i 0] := by
  rw [List.take_succ_eq_append_getElem h]
  simp [List.getD, List.getElem?_eq_getElem h]
theorem SpI.cut {xs : List Int} {i f : Nat} {ls : List (List Int)} (h : SpI xs i f ls) (hi : i < xs.length) (hx : xs.getD i 0 = 10) : SpI xs (i + 1) (i + 1) (ls ++ [(xs.take i).drop f]) := by
  refine ⟨Nat.le_refl _, ?_⟩
  have := (spl_snoc 10 _ _ _ h.2).1
  rw [take_one hi, hx, this]
  have e : (xs.take i ++ [(10 : Int)]).drop (i + 1) = [] := List.drop_eq_nil_of_le (by simp; omega)
  rw [e, List.append_assoc]
  rfl
theorem SpI.on {xs : List Int} {i f : Nat} {ls : List (List Int)} (h : SpI xs i f ls) (hi : i < xs.length) (hx : xs.getD i 0 ≠ 10) : SpI xs (i + 1) f ls := by
  refine ⟨by have := h.1; omega, ?_⟩
  have := (spl_snoc 10 _ _ _ h.2).2 _ hx
  rw [take_one hi, this, List.drop_append_of_le_length (by rw [List.length_take]; have := h.1; omega)]
theorem SpI.fin {xs : List Int} {f : Nat} {ls : List (List Int)} (h : SpI xs xs.length f ls) : lnsL xs = ls := by
  have := h.2
  rw [List.take_length] at this
  rw [lnsL, this]
  simp
theorem SpI.len {xs : List Int} {i f : Nat} {ls : List (List Int)} (h : SpI xs i f ls) : ls.length ≤ i := by
  have h1 := spl_len_le 10 (xs.take i)
  have h2 := congrArg List.length h.2
  simp only [List.length_append, List.length_cons, List.length_nil] at h2
  rw [List.length_take] at h1
  omega
def strVs (ls : List (List Int)) : List Value := ls.map fun l => .string (txt l)
theorem infoS : (Tryz.prog.info? 9).map (fun i => (i.zero, i.size, i.bytes)) = some (some (.string ⟨#[]⟩), 1, 16) := by kernel_rfl
set_option maxHeartbeats 4000000 in
set_option maxRecDepth 100000 in
theorem rsplit_any (s : ByteArray) (w : World) (hs : s.size ≤ 1000000) : Calls Tryz.prog 19 #[.string s] w fun e w' =>
    ∃ P cc, e = .returned (.slice P (lnsL (ints s)).length cc) ∧ w'.ownsRow w.heap.size 9 1 (.slice P (lnsL (ints s)).length cc) (lnsL (ints s)).length (strVs (lnsL (ints s))) ∧ Past w w' := by
  obtain ⟨iS, hiS, hzS, hsS, hbS⟩ := info_parts infoS
  have HL := Lib.hid (ints_len s)
  have HZ := Lib.hid hs
  have hsi : (s.size : Int) ≤ 1000000 := by omega
  clear hs
  go_enter Tryz.func19, Tryz.ntmps19
  go_wp2_with fail
  go_loopg [3, 4, 5] (s.size) (fun q s3 s4 s5 wx => ∃ (i f : Nat) (ls : List (List Int)) (P : Option Addr) (cc : Nat), i ≤ s.size ∧ q = s.size - i ∧ s3 = .slice P ls.length cc ∧ s4 = .int .i64 (f : Int) ∧ s5 = .int .i64 (i : Int) ∧ Hid (SpI (ints s) i f ls) ∧ Hid (wx.ownsRow w.heap.size 9 1 (.slice P ls.length cc) ls.length (strVs ls) ∧ Past w wx))
  case atStart => exact ⟨0, 0, [], none, 0, Nat.zero_le _, rfl, rfl, rfl, rfl, Lib.hid (SpI.zero _), Lib.hid ⟨World.ownsRow_nil _ _ _ _, Below.refl _ _⟩⟩
  case round =>
    obtain ⟨i, f, ls, P, cc, hi, hgk, rfl, rfl, rfl, HP, HO⟩ := hrel
    have HGK := Lib.hid hgk
    have HI := Lib.hid hi
    have hii : (i : Int) ≤ 1000000 := by omega
    have hi0 : (0 : Int) ≤ (i : Int) := by omega
    have hfi : (f : Int) ≤ (i : Int) := by have := HP.out.1; omega
    have hf0 : (0 : Int) ≤ (f : Int) := by omega
    clear hgk hi
    by_cases hlt : i < s.size
    · have hin : (i : Int) < (s.size : Int) := by omega
      have HLT := Lib.hid hlt
      have hix : ∀ w, (Instr.index 9 (.string s) (.int .i64 (i : Int))).run Tryz.prog w = .ok (.int .u8 ((ints s).getD i 0)) w := fun w => idx_str s i hlt w
      clear hlt
      by_cases hx : (ints s).getD i 0 = 10
      · have HP2 := Lib.hid (HP.out.cut (by rw [HL.out]; exact HLT.out) hx)
        have hle : ls.length ≤ 1000000 := by have := HP.out.len; have := HZ.out; have := HI.out; omega
        have HLE := Lib.hid hle
        have hsl := strsl s f i (f : Int) (i : Int) hf0 hfi (by omega) (by omega) (by omega)
        have hslA := strslAt s f i (f : Int) (i : Int) hf0 hfi (by omega) (by omega) (by omega)
        have hex : s.extract f i = txt (((ints s).take i).drop f) := by rw [← ints_ext, txt_of_ints]
        rw [hex] at hsl hslA
        rw [hx] at hix
        obtain ⟨Z, hZ⟩ : ∃ Z, ((ints s).take i).drop f = Z := ⟨_, rfl⟩
        rw [hZ] at hsl hslA HP2
        obtain ⟨T, hT⟩ : ∃ T, txt Z = T := ⟨_, rfl⟩
        rw [hT] at hsl hslA
        have HTZ := Lib.hid hT
        obtain ⟨L, hLe⟩ : ∃ L, ls.length = L := ⟨_, rfl⟩
        have HLn := Lib.hid hLe
        rw [hLe] at hle HO ⊢
        have hLi : (L : Int) ≤ 1000000 := by omega
        clear hx hex hZ hT hLe
        go_wp2_with (at_builtin; refine wpList_append_own _ rfl _ _ 40 rfl w.heap.size 9 iS (.string ⟨#[]⟩) 1 16 Tryz.underlying40 hiS hzS hsS hbS rfl (by decide) _ L _ rfl (HO.out.1.alloc _) ⟨wr.heap.size, 0, none⟩ 1 1 [.string T] rfl rfl ?c1 ?c2 ?c3 ?c4 ?c5 ?_)
        case c1 =>
          intro j u hj
          cases j with
          | zero =>
            simp at hj
            subst hj
            rw [add_none, World.cell?_alloc_new]
            rfl
          | succ j => simp at hj
        case c2 => simp [Value.oneCell']
        case c3 => unfold maxLen; omega
        case c4 => omega
        case c5 => exact Nat.le_trans HO.out.2.size (by simp)
        intro v' w1 hown1 hgrow1 _
        obtain ⟨B3, d3, rfl⟩ := own_slice hown1
        have HO2 : Hid (w1.ownsRow w.heap.size 9 1 (.slice B3 (L + 1) d3) (L + 1) (strVs (ls ++ [Z])) ∧ Past w w1) := Lib.hid (by
          unfold strVs
          rw [List.map_append, List.map_singleton, HTZ.out]
          exact ⟨hown1, (HO.out.2.trans' ((Below.refl _ _).alloc (Nat.le_refl _) _)).grown hgrow1 (Nat.le_trans HO.out.2.size (by simp)) (own_block_ge HO.out.1)⟩)
        have HLn2 : Hid ((ls ++ [Z]).length = L + 1) := Lib.hid (by rw [List.length_append, HLn.out]; rfl)
        clear hown1 hgrow1 HO
        go_wp2_with fail
        go_roundg (s.size - (i + 1))
        case rel => exact ⟨i + 1, i + 1, ls ++ [Z], B3, d3, by have := HLT.out; omega, rfl, by rw [HLn2.out], by go_num, by go_num, HP2, by rw [HLn2.out]; exact HO2⟩
        case measure => have := HGK.out; have := HLT.out; omega
      · have HP2 := Lib.hid (HP.out.on (by rw [HL.out]; exact HLT.out) hx)
        have hxb : ((ints s).getD i 0 == 10) = false := by simpa using hx
        generalize (ints s).getD i 0 = x at *
        go_wp2_with fail
        go_roundg (s.size - (i + 1))
        case rel => exact ⟨i + 1, f, ls, P, cc, by have := HLT.out; omega, rfl, rfl, rfl, by go_num, HP2, HO⟩
        case measure => have := HGK.out; have := HLT.out; omega
    · obtain rfl : i = s.size := by have := HI.out; omega
      have HF : Hid (lnsL (ints s) = ls) := Lib.hid (SpI.fin (by rw [HL.out]; exact HP.out))
      clear hlt
      go_wp2_with fail
      go_ret
      rw [HF.out]
      exact ⟨P, cc, rfl, HO.out.1, HO.out.2⟩
end Go.Proofs.YtnnonidiogoffaaGreatDoor
