/- Strings as lists of numbers. -/
import Derived.Test.YtclnoblcdaimiaaDoorRef11C
import Derived.Lib.Bytes
import Derived.Lib.AppendStr
import Derived.Laws.BytesString
import Derived.Laws.IdiomStrings
namespace Go.Proofs.YtclnoblcdaimiaaDoor
open Go.RowKit
set_option linter.unusedVariables false

/-- A string of bytes. -/
def txt (xs : List Int) : ByteArray := ⟨(Lib.bytesOf xs).toArray⟩
theorem conv_sl {P : Program} {w : World} {src dst e : TypeId} {A : Option Addr} {n c : Nat} {xs : List Int} (hs : P.underlying src = some (.slice e)) (he : P.underlying e = some (.int .u8)) (hd : P.underlying dst = some .string) (h : Sl w A n c xs) :
    (convert src dst (.slice A n c)).run P w = .ok (.string (txt xs)) w := by
  have hl : (Lib.bytesOf xs).length = n := by simp [Lib.bytesOf, h.len]
  cases A with
  | none =>
    obtain rfl := h.nil0 rfl
    have hn : n = 0 := by have := h.cap; omega
    subst hn
    obtain rfl : xs = [] := List.eq_nil_of_length_eq_zero h.len
    rw [run_convert_bytes_string w src dst e none 0 0 hs he hd]
    rfl
  | some ad =>
    have hc := run_convert_bytes_back (P := P) w src dst e ad c (Lib.bytesOf xs) hs he hd (fun j hj => by
      have hjn : j < n := by omega
      obtain ⟨b, o, e, hcell⟩ := h.bytes (by omega)
      injection e with e
      subst e
      rw [add_none, hcell j hjn]
      have hjx : j < xs.length := by have := h.len; omega
      have hr := h.rng xs[j] (List.getElem_mem hjx)
      simp only [Lib.bytesOf, List.getElem_map, List.getD_eq_getElem?_getD, List.getElem?_eq_getElem hjx, Option.getD_some]
      congr 2
      rw [UInt8.toNat_ofNat']
      omega)
    rwa [hl] at hc

/-- The bytes of a string as numbers. -/
def ints (s : ByteArray) : List Int := s.data.toList.map fun b => (b.toNat : Int)
theorem ints_len (s : ByteArray) : (ints s).length = s.size := by
  rw [ints, List.length_map, Array.length_toList]
  rfl
theorem ints_at (s : ByteArray) (i : Nat) (h : i < s.size) : (ints s).getD i 0 = ((s[i]).toNat : Int) := by
  have h' : i < s.data.size := h
  simp only [ints, List.getD_eq_getElem?_getD, List.getElem?_map, Array.getElem?_toList]
  rw [Array.getElem?_eq_getElem h']
  rfl
theorem ints_all (s : ByteArray) : ∀ x ∈ ints s, 0 ≤ x ∧ x < 256 := by
  intro x hx
  obtain ⟨b, _, rfl⟩ := List.mem_map.1 hx
  have := b.toNat_lt
  omega
theorem ints_txt {l : List Int} (h : ∀ x ∈ l, 0 ≤ x ∧ x < 256) : ints (txt l) = l := by
  unfold ints txt Lib.bytesOf
  rw [List.map_map]
  conv => rhs; rw [← List.map_id l]
  refine List.map_congr_left fun x hx => ?_
  have := h x hx
  simp only [Function.comp, id]
  rw [UInt8.toNat_ofNat']
  omega
theorem ints_inj {s t : ByteArray} (h : ints s = ints t) : s = t := by
  have e : s.data.toList = t.data.toList := by
    unfold ints at h
    exact (List.map_inj_right (f := fun b : UInt8 => (b.toNat : Int)) (fun a b hab => by
      have : a.toNat = b.toNat := by exact_mod_cast hab
      exact UInt8.toNat_inj.1 this)).1 h
  have : s.data = t.data := Array.toList_inj.1 e
  cases s
  cases t
  simpa using this
theorem txt_ints (s : ByteArray) : txt (ints s) = s := ints_inj (ints_txt (ints_all s))
theorem txt_size (xs : List Int) : (txt xs).size = xs.length := by
  show (Lib.bytesOf xs).toArray.size = _
  simp [Lib.bytesOf]
theorem txt_append (a b : List Int) : txt (a ++ b) = txt a ++ txt b := by
  apply ByteArray.ext
  rw [ByteArray.data_append]
  simp [txt, Lib.bytesOf]
theorem ints_append (a b : ByteArray) : ints (a ++ b) = ints a ++ ints b := by
  unfold ints
  rw [ByteArray.data_append, Array.toList_append, List.map_append]
theorem ints_extract (s : ByteArray) (a b : Nat) : ints (s.extract a b) = ((ints s).take b).drop a := by
  unfold ints
  rw [ByteArray.data_extract, Array.toList_extract, List.extract_eq_take_drop, ← List.map_take, ← List.map_drop, ← List.drop_take]
theorem strCells_ints (s : ByteArray) : Lib.strCells s = (ints s).map (Value.int .u8) := by
  unfold Lib.strCells ints
  rw [List.map_map]
  rfl
theorem idx_str (s : ByteArray) (k : Nat) (hk : k < s.size) (w : World) : (Instr.index 9 (.string s) (.int .i64 (k : Int))).run Tryd.prog w = .ok (.int .u8 ((ints s).getD k 0)) w := by
  rw [run_index_string w 9 s .i64 (k : Int) Tryd.underlying9, dif_pos ⟨by omega, by omega⟩, ints_at s k hk]
  simp only [Int.toNat_natCast]

end Go.Proofs.YtclnoblcdaimiaaDoor
