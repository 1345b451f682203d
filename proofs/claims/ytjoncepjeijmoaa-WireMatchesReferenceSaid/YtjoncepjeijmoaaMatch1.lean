/- What stays true while the reader and the reference reader go on side by side. -/
import Derived.Test.YtjoncepjeijmoaaJoin
import Derived.Deep.AppendLies
import Derived.Deep.RegionHeld3
import Derived.Deep.DeepCutAuto
import Derived.Deep.CutBlock
import Derived.Deep.LoopGhost
import Derived.Deep.RegionWith
import Derived.Deep.RegionLaw
import Derived.StillTailTactics
namespace Go.Proofs.Ytjoncepjeijmoaa
open Go.RowKit

/-- A new reader, and where its bytes lie. -/
def MadeOwn (w : World) (xs : List Int) (e : Ending) (w' : World) : Prop :=
  ∃ g A c, e = .returned (.pointer (some ⟨g, 0, none⟩)) ∧ Rdr w' g A xs.length c 0 ∧ Sl w' A xs.length c xs ∧ w.heap.size ≤ g ∧ Past w w' ∧
    (0 < xs.length → ∃ q, A = some ⟨q, 0, none⟩ ∧ w.heap.size ≤ q)

theorem own_at {w : World} {base n c : Nat} {e : TypeId} {A : Option Addr} {xs : List Value} (h : w.ownsRow base e 1 (.slice A n c) n xs) (hn : 0 < n) :
    ∃ q, A = some ⟨q, 0, none⟩ ∧ base ≤ q ∧ q < w.heap.size ∧ ∀ i, w.frozen? ⟨q, i, none⟩ = false := by
  rcases h.2 with ⟨_, e2⟩ | ⟨g, cap, cur, e1, e2, _⟩
  · omega
  · injection e1 with e1 e3 e4
    subst e1
    exact ⟨g, rfl, e2, (h.lt g rfl).2, fun i => h.frozenAt i⟩

theorem new_own (A : Option Addr) (n c : Nat) (xs : List Int) (w : World) (h : Sl w A n c xs) (hbig : n ≤ 140737488355328) :
    Calls Try.prog 8 #[.slice A n c] w (MadeOwn w xs) := by
  have hc := fun W (hW : Sl W A n c xs) => clone_any A n c xs W hW hbig
  have H := Lib.hid h
  clear h
  go_enter Try.func8, Try.ntmps8
  go_wp2_with fail
  refine (hc _ H.out).mono ?_
  intro e w1 hf
  obtain ⟨A1, c1, rfl, hs, ho, hp⟩ := hf.out H.out.rng
  clear hf
  have HO := Lib.hid ho
  have HS := Lib.hid hs
  have HP := Lib.hid hp
  clear ho hs hp
  go_wp2_with fail
  go_ret
  refine ⟨w1.heap.size, A1, c1, rfl, heap_alloc_new w1 _, HS.out.past ((Below.refl _ _).alloc (Nat.le_refl _) _), HP.out.size, HP.out.trans' ((Below.refl _ _).alloc (Nat.le_refl _) _), fun hn => ?_⟩
  obtain ⟨q, e, hq, _⟩ := own_at HO.out hn
  exact ⟨q, e, hq⟩

/-- The reader in block g over the bytes at B, and the reference reader in block h over those at A, both at the offset k. -/
structure Inv (w0 w : World) (g h : Nat) (A B : Option Addr) (n c d k j : Nat) (xs : List Int) : Prop where
  past : Past w0 w
  rdr : Rdr w g B n d k
  own : Sl w B n d xs
  ref : Row w h 28 #[.slice A n c, .int .i64 (j : Int)]
  newg : w0.heap.size ≤ g
  newh : w0.heap.size ≤ h
  kn : k ≤ n

section
variable {w0 w w' : World} {g h : Nat} {A B : Option Addr} {n c d k j : Nat} {xs : List Int}
theorem Inv.ne (i : Inv w0 w g h A B n c d k j xs) : h ≠ g := by
  rintro rfl
  have h1 := i.rdr
  have h2 := i.ref
  unfold Rdr at h1
  unfold Row at h2
  rw [h1] at h2
  injection h2 with h2
  injection h2 with _ e
  revert e
  decide
theorem Inv.drewN (i : Inv w0 w g h A B n c d k j xs) (m : Nat) : Inv w0 (w.drewN m) g h A B n c d k j xs := ⟨i.past.drewN m, i.rdr, i.own.drewN m, i.ref, i.newg, i.newh, i.kn⟩
theorem Inv.later (i : Inv w0 w g h A B n c d k j xs) (hp : Past w w') : Inv w0 w' g h A B n c d k j xs := ⟨i.past.trans' hp, i.rdr.past hp, i.own.past hp, i.ref.past hp, i.newg, i.newh, i.kn⟩
/-- A call that turns the reader alone. -/
theorem Inv.only (i : Inv w0 w g h A B n c d k j xs) (hg : w.grownBy w' (some g)) {k' : Nat} (hr : Rdr w' g B n d k') (hk : k' ≤ n) : Inv w0 w' g h A B n c d k' j xs :=
  ⟨past_of_only i.past hg i.past.size i.newg, hr, i.own.only hg i.rdr.nobyte, i.ref.grown hg (by intro e; injection e with e; exact i.ne e), i.newg, i.newh, hk⟩
theorem Inv.set1 (i : Inv w0 w g h A B n c d k j xs) (k' : Nat) (hk : k' ≤ n) : Inv w0 (w.setCell ⟨g, 1, none⟩ (.int .i64 (k' : Int))) g h A B n c d k' j xs :=
  ⟨i.past.setCell i.newg _, i.rdr.set1 k', i.own.setCell i.rdr.c1 (by intro x hx; cases hx), (Below.heap_setCell w ⟨g, 1, none⟩ _ h i.ne).trans i.ref, i.newg, i.newh, hk⟩
/-- The reference's reader is stored anew. -/
theorem Inv.store (i : Inv w0 w g h A B n c d k j xs) (j' : Nat) :
    Inv w0 ((w.setCell ⟨h, 0, none⟩ (.slice A n c)).setCell ⟨h, 1, none⟩ (.int .i64 (j' : Int))) g h A B n c d k j' xs := by
  have hne := i.ne
  have c0 : w.cell? ⟨h, 0, none⟩ = some (.slice A n c) := i.ref.cell 0
  have r1 : Row (w.setCell ⟨h, 0, none⟩ (.slice A n c)) h 28 #[.slice A n c, .int .i64 (j : Int)] := by simpa using i.ref.set 0 (.slice A n c)
  have c1 : (w.setCell ⟨h, 0, none⟩ (.slice A n c)).cell? ⟨h, 1, none⟩ = some (.int .i64 (j : Int)) := r1.cell 1
  exact ⟨(i.past.setCell i.newh _).setCell i.newh _, (Below.heap_setCell _ ⟨h, 1, none⟩ _ g (fun e => hne e.symm)).trans ((Below.heap_setCell _ ⟨h, 0, none⟩ _ g (fun e => hne e.symm)).trans i.rdr),
    (i.own.setCell c0 (by intro x hx; cases hx)).setCell c1 (by intro x hx; cases hx), by simpa using r1.set 1 (.int .i64 (j' : Int)), i.newg, i.newh, i.kn⟩
end

/-- Bytes of the call's own that may be changed without changing anything that lies before them. -/
def Loose (w0 : World) (g h : Nat) (B : Option Addr) (w : World) (G : Option Addr) (m : Nat) : Prop :=
  0 < m → ∃ q, G = some ⟨q, 0, none⟩ ∧ g < q ∧ h < q ∧ w0.heap.size ≤ q ∧ (∀ b o, B = some ⟨b, o, none⟩ → b ≠ q) ∧ ∀ i, w.frozen? ⟨q, i, none⟩ = false

theorem Sl.far {w : World} {B : Option Addr} {n d : Nat} {xs : List Int} (h : Sl w B n d xs) {a : Addr} (v : Value) (hB : ∀ b o, B = some ⟨b, o, none⟩ → b ≠ a.block) : Sl (w.setCell a v) B n d xs :=
  ⟨h.len, h.cap, h.big, fun hn => by
    obtain ⟨b, o, rfl, hc⟩ := h.bytes hn
    refine ⟨b, o, rfl, fun i hi => ?_⟩
    rw [World.cell?_setCell_other]
    · exact hc i hi
    · rintro rfl
      exact hB b o rfl rfl, h.rng, h.nil0⟩
theorem Row.far {w : World} {g : Nat} {t : TypeId} {cs : Array Value} (h : Row w g t cs) {a : Addr} (v : Value) (ha : g ≠ a.block) : Row (w.setCell a v) g t cs := (Below.heap_setCell w a v g ha).trans h
theorem Rdr.far {w : World} {g : Nat} {A : Option Addr} {n c k : Nat} (h : Rdr w g A n c k) {a : Addr} (v : Value) (ha : g ≠ a.block) : Rdr (w.setCell a v) g A n c k := (Below.heap_setCell w a v g ha).trans h

/-- The cells of block-bound bytes that may be changed. -/
def Open (w : World) (G : Option Addr) (n lo hi : Nat) : Prop :=
  0 < n → ∃ q, G = some ⟨q, 0, none⟩ ∧ lo ≤ q ∧ q < hi ∧ ∀ i, i < n → (∃ x, w.cell? ⟨q, i, none⟩ = some (.int .u8 x)) ∧ w.frozen? ⟨q, i, none⟩ = false

theorem Open.of_own {w w' : World} {G : Option Addr} {n c lo : Nat} {e : TypeId} {xs : List Int} (h : w.ownsRow lo e 1 (.slice G n c) n (xs.map (Value.int .u8))) (hp : Past w w') : Open w' G n lo w.heap.size := fun hn => by
  obtain ⟨q, rfl, h1, h2, h3⟩ := own_at h hn
  refine ⟨q, rfl, h1, h2, fun i hi => ⟨⟨xs.getD i 0, ?_⟩, by rw [Below.frozen hp h2]; exact h3 i⟩⟩
  have hl : xs.length = n := by have := h.1; simpa using this
  have hc := h.cellAt (g := q) (cap := c) i (by omega)
  rw [Below.cell hp h2, hc]
  simp [List.getD, List.getElem?_eq_getElem (show i < xs.length by omega)]
theorem Open.set {w : World} {G : Option Addr} {n lo hi q : Nat} (h : Open w G n lo hi) (j : Nat) (x : Int) : Open (w.setCell ⟨q, j, none⟩ (.int .u8 x)) G n lo hi := fun hn => by
  obtain ⟨p, rfl, h1, h2, h3⟩ := h hn
  refine ⟨p, rfl, h1, h2, fun i hi => ?_⟩
  obtain ⟨⟨y, hy⟩, hf⟩ := h3 i hi
  refine ⟨?_, by simpa using hf⟩
  by_cases he : (⟨q, j, none⟩ : Addr) = ⟨p, i, none⟩
  · rw [he]
    exact ⟨_, World.cell?_setCell_same _ _ _ hy⟩
  · exact ⟨y, by rw [World.cell?_setCell_other _ _ _ _ he]; exact hy⟩

/-- What the variables of one round hold once both readers have been asked. -/
def Mid (w0 : World) (g h : Nat) (A B : Option Addr) (n c d : Nat) (xs : List Int) (s10 s11 s12 s13 s14 s15 : Value) (w : World) : Prop :=
  ∃ (k : Nat) (ys : List Int) (G R : Option Addr) (e r : Nat) (bo : Bool) (x : Int), s10 = .slice G ys.length e ∧ s11 = .slice R ys.length r ∧ s12 = .bool bo ∧ s13 = .bool bo ∧ s14 = .int .u64 x ∧ s15 = .int .u64 x ∧
    Inv w0 w g h A B n c d k k xs ∧ Sl w G ys.length e ys ∧ Sl w R ys.length r ys ∧ Loose w0 g h B w G ys.length

/-- The quiet calls of one round, as a region that only reads asks for them. -/
theorem quiet_rsame {A1 A2 : Option Addr} {n c1 c2 : Nat} {xs : List Int} {w : World} (m : Nat) (h1 : Sl (w.drewN m) A1 n c1 xs) (h2 : Sl (w.drewN m) A2 n c2 xs) :
    Calls Try.prog 14 #[.slice A1 n c1, .slice A2 n c2] (w.drewN m) fun e w' => e = .returned (.bool true) ∧ ∃ q, w' = w.drewN q :=
  (rsame_self A1 A2 n c1 c2 xs _ h1 h2).mono (by
    rintro e w' ⟨rfl, q, rfl⟩
    exact ⟨rfl, m + q, by rw [World.drewN_drewN]⟩)
theorem quiet_at {w : World} {g : Nat} {A : Option Addr} {n c k : Nat} (m : Nat) (h : Rdr (w.drewN m) g A n c k) :
    Calls Try.prog 15 #[.pointer (some ⟨g, 0, none⟩)] (w.drewN m) fun e w' => e = .returned (.int .i64 (k : Int)) ∧ ∃ q, w' = w.drewN q :=
  (at_any _ g A n c k h).mono (by
    rintro e w' ⟨rfl, rfl⟩
    exact ⟨rfl, m, rfl⟩)
theorem quiet_left {w : World} {g : Nat} {A : Option Addr} {n c k : Nat} (m : Nat) (h : Rdr (w.drewN m) g A n c k) (hk : k ≤ n) (hn : n ≤ 9223372036854775807) :
    Calls Try.prog 16 #[.pointer (some ⟨g, 0, none⟩)] (w.drewN m) fun e w' => e = .returned (.int .i64 ((n - k : Nat) : Int)) ∧ ∃ q, w' = w.drewN q :=
  (left_any _ g A n c k h hk hn).mono (by
    rintro e w' ⟨rfl, q, rfl⟩
    exact ⟨rfl, m + q, by rw [World.drewN_drewN]⟩)

/-- Where the taken bytes lie: behind all that is kept. -/
def Away (w0 : World) (g h : Nat) (B : Option Addr) (G : Option Addr) (m : Nat) : Prop :=
  0 < m → ∃ q, G = some ⟨q, 0, none⟩ ∧ g < q ∧ h < q ∧ w0.heap.size ≤ q ∧ ∀ b o, B = some ⟨b, o, none⟩ → b ≠ q
def Cells (w : World) (G : Option Addr) (m : Nat) : Prop :=
  ∀ q, G = some ⟨q, 0, none⟩ → ∀ i, i < m → (∃ x, w.cell? ⟨q, i, none⟩ = some (.int .u8 x)) ∧ w.frozen? ⟨q, i, none⟩ = false
theorem Loose.away {w0 w : World} {g h m : Nat} {B G : Option Addr} (l : Loose w0 g h B w G m) : Away w0 g h B G m := fun hm => by
  obtain ⟨q, h1, h2, h3, h4, h5, _⟩ := l hm
  exact ⟨q, h1, h2, h3, h4, h5⟩
theorem Loose.cells {w0 w : World} {g h m c : Nat} {B G : Option Addr} {ys : List Int} (l : Loose w0 g h B w G m) (hs : Sl w G m c ys) : Cells w G m := by
  intro q hq i hi
  obtain ⟨p, h1, _, _, _, _, h6⟩ := l (by omega)
  rw [hq] at h1
  injection h1 with h1
  injection h1 with h1
  subst h1
  obtain ⟨b, o, e, hc⟩ := hs.bytes (by omega)
  rw [hq] at e
  injection e with e
  injection e with e1 e2
  subst e1 e2
  have := hc i hi
  rw [Nat.zero_add] at this
  exact ⟨⟨_, this⟩, h6 i⟩
theorem Cells.set {w : World} {G : Option Addr} {m : Nat} (h : Cells w G m) (q j : Nat) (x : Int) : Cells (w.setCell ⟨q, j, none⟩ (.int .u8 x)) G m := by
  intro p hp i hi
  obtain ⟨⟨y, hy⟩, hf⟩ := h p hp i hi
  refine ⟨?_, by simpa using hf⟩
  by_cases he : (⟨q, j, none⟩ : Addr) = ⟨p, i, none⟩
  · rw [he]
    exact ⟨_, World.cell?_setCell_same _ _ _ hy⟩
  · exact ⟨y, by rw [World.cell?_setCell_other _ _ _ _ he]; exact hy⟩
theorem Inv.far {w0 w : World} {g h : Nat} {A B : Option Addr} {n c d k j : Nat} {xs : List Int} (i : Inv w0 w g h A B n c d k j xs) {q : Nat} (h1 : g < q) (h2 : h < q) (h3 : w0.heap.size ≤ q) (h4 : ∀ b o, B = some ⟨b, o, none⟩ → b ≠ q) (p : Nat) (v : Value) :
    Inv w0 (w.setCell ⟨q, p, none⟩ v) g h A B n c d k j xs :=
  ⟨i.past.setCell h3 _, i.rdr.far _ (Nat.ne_of_lt h1), i.own.far _ h4, i.ref.far _ (Nat.ne_of_lt h2), i.newg, i.newh, i.kn⟩

theorem loose_of {w0 w w' w'' : World} {g h : Nat} {A B Y : Option Addr} {n c d k j l ye : Nat} {xs : List Int} {e : TypeId} {vs : List Value} (i : Inv w0 w g h A B n c d k j xs)
    (ho : w'.ownsRow w.heap.size e 1 (.slice Y l ye) l vs) (hl : l ≤ n) (hp : Past w' w'') : Loose w0 g h B w'' Y l := fun hm => by
  obtain ⟨q, rfl, h1, h2, h3⟩ := own_at ho hm
  refine ⟨q, rfl, Nat.lt_of_lt_of_le i.rdr.lt h1, Nat.lt_of_lt_of_le i.ref.lt h1, Nat.le_trans i.past.size h1, ?_, fun j => by rw [Below.frozen hp h2]; exact h3 j⟩
  intro b o hb
  obtain ⟨b', o', e, hc⟩ := i.own.bytes (by omega)
  rw [hb] at e
  injection e with e
  injection e with e1 _
  subst e1
  have := cell_lt (hc 0 (by omega))
  simp only at this
  omega
theorem loose_nil (w0 : World) (g h : Nat) (B : Option Addr) (w : World) (G : Option Addr) : Loose w0 g h B w G 0 := fun hm => absurd hm (Nat.lt_irrefl 0)

theorem Mid.of {w0 w : World} {g h : Nat} {A B Y R : Option Addr} {n c d k j ye re : Nat} {xs ys : List Int} (bo : Bool) (x : Int) (i : Inv w0 w g h A B n c d k j xs)
    (hy : Sl w Y ys.length ye ys) (hr : Sl w R ys.length re ys) (hl : Loose w0 g h B w Y ys.length) :
    Mid w0 g h A B n c d xs (.slice Y ys.length ye) (.slice R ys.length re) (.bool bo) (.bool bo) (.int .u64 x) (.int .u64 x) ((w.setCell ⟨h, 0, none⟩ (.slice A n c)).setCell ⟨h, 1, none⟩ (.int .i64 (k : Int))) := by
  have c0 : w.cell? ⟨h, 0, none⟩ = some (.slice A n c) := i.ref.cell 0
  have r1 : Row (w.setCell ⟨h, 0, none⟩ (.slice A n c)) h 28 #[.slice A n c, .int .i64 (j : Int)] := by simpa using i.ref.set 0 (.slice A n c)
  have c1 : (w.setCell ⟨h, 0, none⟩ (.slice A n c)).cell? ⟨h, 1, none⟩ = some (.int .i64 (j : Int)) := r1.cell 1
  refine ⟨k, ys, Y, R, ye, re, bo, x, rfl, rfl, rfl, rfl, rfl, rfl, i.store k, (hy.setCell c0 (by intro x hx; cases hx)).setCell c1 (by intro x hx; cases hx), (hr.setCell c0 (by intro x hx; cases hx)).setCell c1 (by intro x hx; cases hx), fun hm => ?_⟩
  obtain ⟨q, h1, h2, h3, h4, h5, h6⟩ := hl hm
  exact ⟨q, h1, h2, h3, h4, h5, fun i => by simpa using h6 i⟩

end Go.Proofs.Ytjoncepjeijmoaa
