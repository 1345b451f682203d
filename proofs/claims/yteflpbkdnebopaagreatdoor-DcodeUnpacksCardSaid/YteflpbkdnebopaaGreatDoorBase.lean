/- Small words about memory, bytes and worlds that the proofs of this seat share; nothing here speaks of a statement. -/
import Derived.WalkKit
import Derived.Lib.Hide
import Derived.Deep.Draws
import Derived.Laws.AppendOwnNone
namespace Go.Proofs.YteflpbkdnebopaaGreatDoor
open Go.RowKit

/-- A fact about two worlds: nothing that the first one holds has changed in the second one. -/
abbrev Past (w w' : World) : Prop := Below w.heap.size w w'

theorem Past.trans' {a b c : World} (h : Past a b) (k : Past b c) : Past a c := Below.trans h (Below.mono k h.size)
theorem Past.drewN {a w : World} (h : Past a w) (n : Nat) : Past a (w.drewN n) := ⟨h.os, h.tape, h.output, h.size, h.block⟩

/-- A world whose only changed old block, if any, is g. -/
theorem only_drewN {a w : World} {row : Option Nat} (h : a.grownBy w row) (n : Nat) : a.grownBy (w.drewN n) row := ⟨h.os, h.tape, h.output, h.size, h.block⟩
theorem only_of_past {a w : World} (h : Past a w) (row : Option Nat) : a.grownBy w row := ⟨h.os, h.tape, h.output, h.size, fun i hi _ => h.block i hi⟩
theorem only_trans {a b c : World} {row : Option Nat} (h : a.grownBy b row) (k : b.grownBy c row) : a.grownBy c row :=
  ⟨k.os.trans h.os, k.tape.trans h.tape, k.output.trans h.output, Nat.le_trans h.size k.size, fun i hi hn => (k.block i (Nat.lt_of_lt_of_le hi h.size) hn).trans (h.block i hi hn)⟩
theorem only_setCell {a w : World} {g : Nat} (h : a.grownBy w (some g)) {p : Addr} (hp : p.block = g ∨ a.heap.size ≤ p.block) (u : Value) : a.grownBy (w.setCell p u) (some g) :=
  ⟨h.os, h.tape, h.output, by simpa [World.setCell] using h.size, fun i hi hne => (Below.heap_setCell w p u i (by
    rintro rfl
    rcases hp with hp | hp
    · exact hne (by rw [hp])
    · omega)).trans (h.block i hi hne)⟩
theorem past_of_only {B : Nat} {a b c : World} {g : Nat} (h : Below B a b) (k : b.grownBy c (some g)) (hB : B ≤ b.heap.size) (hg : B ≤ g) : Below B a c :=
  h.grown k hB (by intro x hx; injection hx with hx; omega)

theorem cell_lt {w : World} {a : Addr} {u : Value} (h : w.cell? a = some u) : a.block < w.heap.size := by
  first | exact World.block_lt_of_cell? h | exact World.block_lt_of_cell? _ h | exact World.block_lt_of_cell? _ _ h
theorem add_none (b o i : Nat) : (⟨b, o, none⟩ : Addr).add i = ⟨b, o + i, none⟩ := by unfold Addr.add; split <;> simp_all

/-- n bytes xs at an address (nil possible if there is none). -/
def BIn (w : World) (p : Option Addr) (n : Nat) (xs : List Int) : Prop :=
  0 < n → ∃ b o, p = some ⟨b, o, none⟩ ∧ ∀ i, i < n → w.cell? ⟨b, o + i, none⟩ = some (.int .u8 (xs.getD i 0))
theorem BIn.nil (w : World) (p : Option Addr) (xs : List Int) : BIn w p 0 xs := fun h => absurd h (Nat.lt_irrefl 0)

/-- A slice value with n bytes xs: address A (nil possible), capacity c. -/
structure Sl (w : World) (A : Option Addr) (n c : Nat) (xs : List Int) : Prop where
  len : xs.length = n
  cap : n ≤ c
  big : c ≤ maxLen
  bytes : BIn w A n xs
  rng : ∀ x ∈ xs, 0 ≤ x ∧ x < 256
  nil0 : A = none → c = 0

theorem BIn.keep {w w' : World} {A : Option Addr} {n : Nat} {xs : List Int} (h : BIn w A n xs)
    (hk : ∀ (p : Addr) (x : Int), w.cell? p = some (.int .u8 x) → w'.cell? p = some (.int .u8 x)) : BIn w' A n xs := fun hn => by
  obtain ⟨b, o, rfl, hc⟩ := h hn
  exact ⟨b, o, rfl, fun i hi => hk _ _ (hc i hi)⟩

section
variable {w w' : World} {A : Option Addr} {n c : Nat} {xs : List Int}
theorem Sl.nil (w : World) : Sl w none 0 0 [] := ⟨rfl, Nat.le_refl _, by unfold maxLen; omega, BIn.nil _ _ _, by simp, fun _ => rfl⟩
theorem Sl.keep (h : Sl w A n c xs) (hk : ∀ (p : Addr) (x : Int), w.cell? p = some (.int .u8 x) → w'.cell? p = some (.int .u8 x)) : Sl w' A n c xs :=
  ⟨h.len, h.cap, h.big, BIn.keep h.bytes hk, h.rng, h.nil0⟩
theorem Sl.past (h : Sl w A n c xs) (hb : Past w w') : Sl w' A n c xs :=
  h.keep fun p x hp => by rw [Below.cell hb (cell_lt hp)]; exact hp
theorem Sl.drewN (h : Sl w A n c xs) (k : Nat) : Sl (w.drewN k) A n c xs := h.keep fun _ _ hp => hp
theorem Sl.setCell (h : Sl w A n c xs) {a : Addr} {u v : Value} (ha : w.cell? a = some u) (hu : ∀ x, u ≠ .int .u8 x) : Sl (w.setCell a v) A n c xs :=
  h.keep fun p x hp => by
    rw [World.cell?_setCell_other]
    · exact hp
    · rintro rfl
      rw [ha] at hp
      injection hp with hp
      exact hu x hp
theorem Sl.only {g : Nat} (h : Sl w A n c xs) (hg : w.grownBy w' (some g)) (hn : ∀ (p : Addr) (x : Int), p.block = g → w.cell? p ≠ some (.int .u8 x)) : Sl w' A n c xs :=
  h.keep fun p x hp => hg.cell hp (fun e => by injection e with e; exact hn p x e hp)
theorem Sl.of_own {B : Nat} {e : TypeId} (h : w.ownsRow B e 1 (.slice A n c) n (xs.map (Value.int .u8))) (hr : ∀ x ∈ xs, 0 ≤ x ∧ x < 256) : Sl w A n c xs := by
  have hl : xs.length = n := by have := h.1; simpa using this
  rcases h.2 with ⟨e1, e2⟩ | ⟨g, cap, cur, e1, e2, e3, e4, e5, e6, e7⟩
  · injection e1 with a1 a2 a3
    subst a1 a2 a3
    exact ⟨hl, Nat.le_refl _, by unfold maxLen; omega, BIn.nil _ _ _, hr, fun _ => rfl⟩
  · injection e1 with a1 a2 a3
    subst a1 a3
    refine ⟨hl, e4, e5, fun hn => ⟨g, 0, rfl, fun i hi => ?_⟩, hr, fun e => by cases e⟩
    have hc := h.cells (g := g) rfl i (.int .u8 (xs.getD i 0)) (by simp [List.getD, List.getElem?_eq_getElem (show i < xs.length by omega)])
    rw [← add_none]
    exact hc
/-- A cut of three indexes. -/
theorem Sl.cut (h : Sl w A n c xs) {i m : Nat} (hi : i + m ≤ n) :
    Sl w (if m = 0 then A else A.map (·.add i)) m m ((xs.drop i).take m) := by
  have hl := h.len
  have hcp := h.cap
  have hb := h.big
  refine ⟨by simp; omega, Nat.le_refl _, by omega, fun hn => ?_, fun x hx => h.rng x (List.mem_of_mem_drop (List.mem_of_mem_take hx)), fun e => ?_⟩
  case' refine_2 =>
    have : A = none := by
      cases A with
      | none => rfl
      | some _ => split at e <;> simp at e
    have := h.nil0 this
    omega
  obtain ⟨b, o, rfl, hc⟩ := h.bytes (by omega)
  rw [if_neg (by omega)]
  refine ⟨b, o + i, by simp [add_none], fun j hj => ?_⟩
  rw [Nat.add_assoc, hc (i + j) (by omega)]
  congr 2
  simp [List.getD, hj]
/-- A cut of two indexes. -/
theorem Sl.cut2 (h : Sl w A n c xs) {i m : Nat} (hi : i + m ≤ n) :
    Sl w (if c = i then A else A.map (·.add i)) m (c - i) ((xs.drop i).take m) := by
  have hl := h.len
  have hcp := h.cap
  have hb := h.big
  refine ⟨by simp; omega, by omega, by omega, fun hn => ?_, fun x hx => h.rng x (List.mem_of_mem_drop (List.mem_of_mem_take hx)), fun e => ?_⟩
  case' refine_2 =>
    have : A = none := by
      cases A with
      | none => rfl
      | some _ => split at e <;> simp at e
    have := h.nil0 this
    omega
  obtain ⟨b, o, rfl, hc⟩ := h.bytes (by omega)
  rw [if_neg (by omega)]
  refine ⟨b, o + i, by simp [add_none], fun j hj => ?_⟩
  rw [Nat.add_assoc, hc (i + j) (by omega)]
  congr 2
  simp [List.getD, hj]
/-- The cells of a slice that is not nil, as the laws of append ask for them. -/
theorem Sl.cells {ad : Addr} (h : Sl w (some ad) n c xs) : ∀ j u, (xs.map (Value.int .u8))[j]? = some u → w.cell? (ad.add j) = some u := by
  intro j u hj
  have hjn : j < xs.length := by simpa using (List.getElem?_eq_some_iff.1 hj).1
  obtain ⟨b, o, e, hc⟩ := h.bytes (by have := h.len; omega)
  injection e with e
  subst e
  rw [add_none, hc j (by have := h.len; omega), ← hj]
  simp [List.getD, List.getElem?_eq_getElem hjn]
end

/-- append of bytes to bytes of the call's own, whatever the source. -/
theorem wpList_append_sl {P : Program} {w : World} {ops : Array Oper} {rest : List Oper} {o : Oper} {a : Act} {Q : Exit → Act → World → Prop} (hgd : o.guard = none) (s x : Operand) (t e : TypeId)
    (ho : o.op = .call { callee := .builtin .append, args := #[s, x], argTypes := #[t, t] }) (ht : P.underlying t = some (.slice e))
    (h8 : (P.info? e).map (fun i => (i.zero, i.size, i.bytes)) = some (some (.int .u8 0), 1, 1))
    (base : Nat) (v : Value) (n : Nat) (xs : List Int) (hs : a.eval s = v) (hown : w.ownsRow base e 1 v n (xs.map (Value.int .u8)))
    (A : Option Addr) (m c : Nat) (ys : List Int) (hx : a.eval x = .slice A m c) (hsl : Sl w A m c ys) (hbig : n + m ≤ 140737488355328) (hbase : base ≤ w.heap.size)
    (h : ∀ v' w', w'.ownsRow base e 1 v' (n + m) ((xs ++ ys).map (Value.int .u8)) → w.grownBy w' v.ownBlock → wpList P ops Q rest (a.put o.dst v') w') : wpList P ops Q (o :: rest) a w := by
  obtain ⟨i, hi, hz, hsz, hby⟩ := info_parts h8
  cases A with
  | none =>
    have hc := hsl.nil0 rfl
    have hm : m = 0 := by have := hsl.cap; omega
    subst hc hm
    have hy : ys = [] := List.eq_nil_of_length_eq_zero hsl.len
    subst hy
    refine wpList_append_own_none hgd s x t ho base e i 1 ht hi v n _ hs hown hx ?_
    exact h v w (by simpa using hown) (World.grownBy.refl w _)
  | some ad =>
    refine wpList_append_own w hgd s x t ho base e i (.int .u8 0) 1 1 ht hi hz hsz hby rfl (by decide) v n _ hs hown ad m c (ys.map (Value.int .u8)) hx (by simp [hsl.len]) hsl.cells
      (by intro u hu; obtain ⟨y, _, rfl⟩ := List.mem_map.1 hu; rfl) (by unfold maxLen; omega) (by omega) hbase ?_
    intro v' w' h1 h2 _
    rw [← List.map_append] at h1
    exact h v' w' h1 h2

theorem own_mono {w : World} {base base' : Nat} {e : TypeId} {size : Nat} {v : Value} {n : Nat} {xs : List Value} (h : w.ownsRow base e size v n xs) (hb : base' ≤ base) : w.ownsRow base' e size v n xs := by
  refine ⟨h.1, ?_⟩
  rcases h.2 with h | ⟨g, cap, cur, h1, h2, h3⟩
  · exact .inl h
  · exact .inr ⟨g, cap, cur, h1, by omega, h3⟩
theorem own_empty (w : World) (e : TypeId) {base g : Nat} (hg : g = w.heap.size) (hb : base ≤ g) : (w.alloc (.cells #[] e)).ownsRow base e 1 (.slice (some ⟨g, 0, none⟩) 0 0) 0 (([] : List Int).map (Value.int .u8)) := by
  subst hg
  exact World.ownsRow_made w #[] 0 hb (Nat.zero_le _) rfl
theorem own_one (w : World) (e : TypeId) (x : Int) {base g : Nat} (hg : g = w.heap.size) (hb : base ≤ g) : (w.alloc (.cells #[.int .u8 x] e)).ownsRow base e 1 (.slice (some ⟨g, 0, none⟩) 1 1) 1 ([x].map (Value.int .u8)) := by
  subst hg
  exact World.ownsRow_lit w #[.int .u8 x] 1 hb (by unfold maxLen; omega) rfl
/-- A slice value out of what a call owns. -/
theorem own_slice {w : World} {base : Nat} {e : TypeId} {size : Nat} {v : Value} {n : Nat} {xs : List Value} (h : w.ownsRow base e size v n xs) : ∃ A c, v = .slice A n c := by
  rcases h.2 with ⟨e, e'⟩ | ⟨g', cap, cur, e, _⟩
  · exact ⟨none, 0, by rw [e, e']⟩
  · exact ⟨_, _, e⟩

/-- Block g holds just the cells cs, of type t. -/
def Row (w : World) (g : Nat) (t : TypeId) (cs : Array Value) : Prop := w.heap[g]? = some (.cells cs t (0, 0))
section
variable {w w' : World} {g : Nat} {t : TypeId} {cs : Array Value}
theorem Row.cell (h : Row w g t cs) (i : Nat) : w.cell? ⟨g, i, none⟩ = cs[i]? := cell_of_row w g i cs t (0, 0) h
theorem Row.fr (h : Row w g t cs) (i : Nat) : w.frozen? ⟨g, i, none⟩ = false := by
  unfold Row at h
  simp [World.frozen?, h]
theorem Row.lt (h : Row w g t cs) : g < w.heap.size := by
  unfold Row at h
  rcases Nat.lt_or_ge g w.heap.size with hl | hl
  · exact hl
  · rw [Array.getElem?_eq_none hl] at h
    cases h
theorem Row.new (w : World) (t : TypeId) (cs : Array Value) : Row (w.alloc (.cells cs t)) w.heap.size t cs := heap_alloc_new w _
theorem Row.alloc (h : Row w g t cs) (o : Obj) : Row (w.alloc o) g t cs := (Below.heap_alloc w o g h.lt).trans h
theorem Row.past (h : Row w g t cs) (hb : Past w w') : Row w' g t cs := (hb.block g h.lt).trans h
theorem Row.grown {row : Option Nat} (h : Row w g t cs) (hb : w.grownBy w' row) (hne : some g ≠ row) : Row w' g t cs := (hb.block g h.lt hne).trans h
theorem Row.set (h : Row w g t cs) (i : Nat) (u : Value) : Row (w.setCell ⟨g, i, none⟩ u) g t (cs.setIfInBounds i u) := by
  unfold Row at h ⊢
  simp [World.setCell, Array.getElem?_modify, h]
end

/-- Two new blocks, seen again after a call that leaves what is old alone. -/
theorem two_rows {w w1 : World} {t u : TypeId} {x y : Array Value} (hp : Past ((w.alloc (.cells x t)).alloc (.cells y u)) w1) :
    Row w1 w.heap.size t x ∧ Row w1 (w.heap.size + 1) u y ∧ w.heap.size + 1 < w1.heap.size ∧ Past w w1 := by
  refine ⟨((Row.new w t x).alloc _).past hp, ?_, ?_, Past.trans' (((Below.refl _ w).alloc (Nat.le_refl _) _).alloc (by simp) _) hp⟩
  · have h := Row.new (w.alloc (.cells x t)) u y
    rw [World.size_alloc] at h
    exact h.past hp
  · have h := hp.size
    simp only [World.size_alloc] at h
    omega

/-- What a call returns that makes new bytes: a slice in memory of its own (or nil), and nothing old has changed. -/
def Fresh (e8 : TypeId) (w : World) (xs : List Int) (e : Ending) (w' : World) : Prop :=
  ∃ A c, e = .returned (.slice A xs.length c) ∧ w'.ownsRow w.heap.size e8 1 (.slice A xs.length c) xs.length (xs.map (Value.int .u8)) ∧ Past w w'

theorem bcell {W w1 : World} (hb : Below W.heap.size W w1) : (∀ b o, b < W.heap.size → w1.cell? ⟨b, o, none⟩ = W.cell? ⟨b, o, none⟩) ∧ (∀ b o, b < W.heap.size → w1.frozen? ⟨b, o, none⟩ = W.frozen? ⟨b, o, none⟩) :=
  ⟨fun b o h => hb.cell (p := ⟨b, o, none⟩) h, fun b o h => hb.frozen (p := ⟨b, o, none⟩) h⟩

end Go.Proofs.YteflpbkdnebopaaGreatDoor
