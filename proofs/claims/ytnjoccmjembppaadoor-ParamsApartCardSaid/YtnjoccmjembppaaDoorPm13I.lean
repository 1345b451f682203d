/- The program's closures; only, ByName, ByCOSE, ByType, ByOID, BySize. -/
import Derived.Test.YtnjoccmjembppaaDoorPm13H
namespace Go.Proofs.YtnjoccmjembppaaDoor
open Go.RowKit Go.Shelf
set_option linter.unusedVariables false

def pName (nm : ByteArray) (a : Int) : Bool := (row13 a).name.toList == nm.toList
def pCose (n : Int) (a : Int) : Bool := ((row13 a).cose == n) && (n != 0)
def pType (n : Int) (a : Int) : Bool := ((row13 a).typ == n) && (n != 0)
def pText (t : ByteArray) (a : Int) : Bool := (row13 a).text.toList == t.toList
def pSize (f s : Int) (a : Int) : Bool := ((row13 a).fam == f) && ((row13 a).sig == s) && (s != 0)

set_option maxHeartbeats 4000000 in
set_option maxRecDepth 100000 in
theorem nameC (a : Int) (b : Nat) (nm : ByteArray) (W : World) (hb : W.cell? ⟨b, 0, none⟩ = some (.string nm)) : Calls Tryd.prog 25 #[setV (row13 a) (.slice none 0 0), .string (row13 a).text, .pointer (some ⟨b, 0, none⟩)] W fun e w' => e = .returned (.bool (pName nm a)) ∧ Past W w' := by
  unfold pName
  obtain ⟨r, hr⟩ : ∃ r, row13 a = r := ⟨_, rfl⟩
  rw [hr] at ⊢
  clear hr
  unfold setV
  have hb1 : (W.alloc (.cells (setC r (.slice none 0 0)) 26)).cell? ⟨b, 0, none⟩ = some (.string nm) := by rw [Below.cell (past_alloc13 W _) (cell_lt hb)]; exact hb
  go_enter Tryd.func25, Tryd.ntmps25
  go_wp2_with fail
  go_ret
  exact ⟨rfl, past_alloc13 _ _⟩

set_option maxHeartbeats 4000000 in
set_option maxRecDepth 100000 in
theorem textC (a : Int) (b : Nat) (t : ByteArray) (W : World) (hb : W.cell? ⟨b, 0, none⟩ = some (.string t)) : Calls Tryd.prog 31 #[setV (row13 a) (.slice none 0 0), .string (row13 a).text, .pointer (some ⟨b, 0, none⟩)] W fun e w' => e = .returned (.bool (pText t a)) ∧ Past W w' := by
  unfold pText
  obtain ⟨r, hr⟩ : ∃ r, row13 a = r := ⟨_, rfl⟩
  rw [hr] at ⊢
  clear hr
  unfold setV
  have hb1 : (W.alloc (.cells (setC r (.slice none 0 0)) 26)).cell? ⟨b, 0, none⟩ = some (.string t) := by rw [Below.cell (past_alloc13 W _) (cell_lt hb)]; exact hb
  go_enter Tryd.func31, Tryd.ntmps31
  go_wp2_with fail
  go_ret
  exact ⟨rfl, past_alloc13 _ _⟩

set_option maxHeartbeats 4000000 in
set_option maxRecDepth 100000 in
theorem coseC (a : Int) (b : Nat) (n : Int) (W : World) (hb : W.cell? ⟨b, 0, none⟩ = some (.int .i64 n)) : Calls Tryd.prog 26 #[setV (row13 a) (.slice none 0 0), .string (row13 a).text, .pointer (some ⟨b, 0, none⟩)] W fun e w' => e = .returned (.bool (pCose n a)) ∧ Past W w' := by
  unfold pCose
  obtain ⟨r, hr⟩ : ∃ r, row13 a = r := ⟨_, rfl⟩
  rw [hr] at ⊢
  clear hr
  unfold setV
  have hb1 : (W.alloc (.cells (setC r (.slice none 0 0)) 26)).cell? ⟨b, 0, none⟩ = some (.int .i64 n) := by rw [Below.cell (past_alloc13 W _) (cell_lt hb)]; exact hb
  by_cases h1 : r.cose = n
  · have e1 : (r.cose == n) = true := by simpa using h1
    rw [e1]
    clear h1
    go_enter Tryd.func26, Tryd.ntmps26
    go_wp2_with fail
    go_ret
    exact ⟨rfl, past_alloc13 _ _⟩
  · have e1 : (r.cose == n) = false := by simpa using h1
    rw [e1]
    clear h1
    go_enter Tryd.func26, Tryd.ntmps26
    go_wp2_with fail
    go_ret
    exact ⟨rfl, past_alloc13 _ _⟩

set_option maxHeartbeats 4000000 in
set_option maxRecDepth 100000 in
theorem typeC (a : Int) (b : Nat) (n : Int) (W : World) (hb : W.cell? ⟨b, 0, none⟩ = some (.int .u32 n)) : Calls Tryd.prog 27 #[setV (row13 a) (.slice none 0 0), .string (row13 a).text, .pointer (some ⟨b, 0, none⟩)] W fun e w' => e = .returned (.bool (pType n a)) ∧ Past W w' := by
  unfold pType
  obtain ⟨r, hr⟩ : ∃ r, row13 a = r := ⟨_, rfl⟩
  rw [hr] at ⊢
  clear hr
  unfold setV
  have hb1 : (W.alloc (.cells (setC r (.slice none 0 0)) 26)).cell? ⟨b, 0, none⟩ = some (.int .u32 n) := by rw [Below.cell (past_alloc13 W _) (cell_lt hb)]; exact hb
  by_cases h1 : r.typ = n
  · have e1 : (r.typ == n) = true := by simpa using h1
    rw [e1]
    clear h1
    go_enter Tryd.func27, Tryd.ntmps27
    go_wp2_with fail
    go_ret
    exact ⟨rfl, past_alloc13 _ _⟩
  · have e1 : (r.typ == n) = false := by simpa using h1
    rw [e1]
    clear h1
    go_enter Tryd.func27, Tryd.ntmps27
    go_wp2_with fail
    go_ret
    exact ⟨rfl, past_alloc13 _ _⟩

set_option maxHeartbeats 4000000 in
set_option maxRecDepth 100000 in
theorem sizeC (a : Int) (b b2 : Nat) (f s : Int) (W : World) (hb : W.cell? ⟨b, 0, none⟩ = some (.int .i64 f)) (hb2 : W.cell? ⟨b2, 0, none⟩ = some (.int .i64 s)) : Calls Tryd.prog 32 #[setV (row13 a) (.slice none 0 0), .string (row13 a).text, .pointer (some ⟨b, 0, none⟩), .pointer (some ⟨b2, 0, none⟩)] W fun e w' => e = .returned (.bool (pSize f s a)) ∧ Past W w' := by
  unfold pSize
  obtain ⟨r, hr⟩ : ∃ r, row13 a = r := ⟨_, rfl⟩
  rw [hr] at ⊢
  clear hr
  unfold setV
  have hb1 : (W.alloc (.cells (setC r (.slice none 0 0)) 26)).cell? ⟨b, 0, none⟩ = some (.int .i64 f) := by rw [Below.cell (past_alloc13 W _) (cell_lt hb)]; exact hb
  have hb3 : (W.alloc (.cells (setC r (.slice none 0 0)) 26)).cell? ⟨b2, 0, none⟩ = some (.int .i64 s) := by rw [Below.cell (past_alloc13 W _) (cell_lt hb2)]; exact hb2
  by_cases h1 : r.fam = f
  · have e1 : (r.fam == f) = true := by simpa using h1
    by_cases h2 : r.sig = s
    · have e2 : (r.sig == s) = true := by simpa using h2
      rw [e1, e2]
      clear h1 h2
      go_enter Tryd.func32, Tryd.ntmps32
      go_wp2_with fail
      go_ret
      exact ⟨rfl, past_alloc13 _ _⟩
    · have e2 : (r.sig == s) = false := by simpa using h2
      rw [e1, e2]
      clear h1 h2
      go_enter Tryd.func32, Tryd.ntmps32
      go_wp2_with fail
      go_ret
      exact ⟨rfl, past_alloc13 _ _⟩
  · have e1 : (r.fam == f) = false := by simpa using h1
    rw [e1]
    clear h1
    go_enter Tryd.func32, Tryd.ntmps32
    go_wp2_with fail
    go_ret
    exact ⟨rfl, past_alloc13 _ _⟩

end Go.Proofs.YtnjoccmjembppaaDoor