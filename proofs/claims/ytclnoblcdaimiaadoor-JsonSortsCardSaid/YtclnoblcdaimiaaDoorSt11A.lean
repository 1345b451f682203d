/- A stable sort by exchanges: rotations, the merging of two sorted parts. No program. -/
import Derived.Sort.LotA
namespace Go.Proofs.YtclnoblcdaimiaaDoor
open Go.Sort
set_option linter.unusedVariables false

section
variable {α : Type} {σ : Type} [DecidableEq σ] (cls : α → σ)
/-- The same length, and for each name the same elements in the same order. -/
def Stb (d d' : Array α) : Prop := d'.size = d.size ∧ ∀ s, d'.toList.filter (fun x => decide (cls x = s)) = d.toList.filter (fun x => decide (cls x = s))
theorem Stb.refl (d : Array α) : Stb cls d d := ⟨rfl, fun _ => rfl⟩
theorem Stb.trans {cls : α → σ} {d e f : Array α} (h : Stb cls d e) (g : Stb cls e f) : Stb cls d f := ⟨g.1.trans h.1, fun s => (g.2 s).trans (h.2 s)⟩
theorem le_trans3 {lt : α → α → Bool} (hO : SWO lt) {x y z : α} (h1 : lt y x = false) (h2 : lt z y = false) : lt z x = false := hO.ntrans z y x h2 h1
theorem lt_mid {lt : α → α → Bool} (hO : SWO lt) {v w z u : α} (h1 : lt w v = false) (h2 : lt w z = true) (h3 : lt u z = false) : lt v u = true := by
  cases h : lt v u with
  | true => rfl
  | false =>
    have e1 : lt w u = false := hO.ntrans w v u h1 h
    have e2 : lt w z = false := hO.ntrans w u z e1 h3
    rw [h2] at e2
    cases e2
variable [Inhabited α]
/-- A part of an array as a list. -/
def seg (d : Array α) (a k : Nat) : List α := (List.range k).map fun t => d[a + t]!
theorem seg_add (d : Array α) (a k l : Nat) : seg d a (k + l) = seg d a k ++ seg d (a + k) l := by
  unfold seg
  rw [List.range_add, List.map_append, List.map_map]
  congr 1
  exact List.map_congr_left fun t _ => by simp [Nat.add_assoc]
theorem seg_congr {d d' : Array α} {a b k : Nat} (h : ∀ t, t < k → d'[b + t]! = d[a + t]!) : seg d' b k = seg d a k :=
  List.map_congr_left fun t ht => h t (List.mem_range.1 ht)
theorem toList_seg (d : Array α) : d.toList = seg d 0 d.size := by
  apply List.ext_getElem
  · simp [seg]
  · intro i h1 h2
    have hi : i < d.size := by simpa using h1
    simp [seg, getElem!_pos d i hi]
variable {cls}
/-- The parts from a to m and from m to b have changed places. -/
structure Rot (d d' : Array α) (a m b : Nat) : Prop where
  size : d'.size = d.size
  am : a ≤ m
  mb : m ≤ b
  bn : b ≤ d.size
  out : ∀ p, p < a ∨ b ≤ p → d'[p]! = d[p]!
  low : ∀ t, t < b - m → d'[a + t]! = d[m + t]!
  high : ∀ t, t < m - a → d'[a + (b - m) + t]! = d[a + t]!
variable {lt : α → α → Bool}
theorem Rot.stb {d d' : Array α} {a m b : Nat} (h : Rot d d' a m b) (hc : ∀ x y, lt x y = true → cls x ≠ cls y) (hl : ∀ u v, a ≤ u → u < m → m ≤ v → v < b → lt d[v]! d[u]! = true) : Stb cls d d' := by
  have h1 := h.am
  have h2 := h.mb
  have h3 := h.bn
  refine ⟨h.size, fun s => ?_⟩
  rw [toList_seg, toList_seg d, h.size]
  have e : d.size = a + ((m - a) + ((b - m) + (d.size - b))) := by omega
  have e' : d.size = a + ((b - m) + ((m - a) + (d.size - b))) := by omega
  have s1 : seg d 0 d.size = seg d 0 a ++ (seg d a (m - a) ++ (seg d m (b - m) ++ seg d b (d.size - b))) := by
    conv => lhs; rw [e]
    rw [seg_add, seg_add, seg_add]
    simp only [Nat.zero_add]
    rw [show a + (m - a) = m by omega, show m + (b - m) = b by omega]
  have s2 : seg d' 0 d.size = seg d 0 a ++ (seg d m (b - m) ++ (seg d a (m - a) ++ seg d b (d.size - b))) := by
    conv => lhs; rw [e']
    rw [seg_add, seg_add, seg_add]
    simp only [Nat.zero_add]
    rw [show a + (b - m) + (m - a) = b by omega]
    rw [seg_congr (d := d) (a := 0) (b := 0) (fun t ht => h.out _ (by omega)), seg_congr (d := d) (a := m) (b := a) (fun t ht => h.low t ht),
      seg_congr (d := d) (a := a) (b := a + (b - m)) (fun t ht => h.high t ht), seg_congr (d := d) (a := b) (b := b) (fun t ht => h.out _ (by omega))]
  rw [s1, s2]
  simp only [List.filter_append]
  congr 1
  rw [← List.append_assoc, ← List.append_assoc]
  congr 1
  by_cases hu : ∃ u, a ≤ u ∧ u < m ∧ cls d[u]! = s
  · obtain ⟨u, u1, u2, u3⟩ := hu
    have : (seg d m (b - m)).filter (fun x => decide (cls x = s)) = [] := by
      rw [List.filter_eq_nil_iff]
      intro x hx
      obtain ⟨t, ht, rfl⟩ := List.mem_map.1 hx
      have ht := List.mem_range.1 ht
      have := hc _ _ (hl u (m + t) u1 u2 (by omega) (by omega))
      rw [u3] at this
      simpa using this
    rw [this, List.append_nil, List.nil_append]
  · have : (seg d a (m - a)).filter (fun x => decide (cls x = s)) = [] := by
      rw [List.filter_eq_nil_iff]
      intro x hx
      obtain ⟨t, ht, rfl⟩ := List.mem_map.1 hx
      have ht := List.mem_range.1 ht
      have : ¬ cls d[a + t]! = s := fun q => hu ⟨a + t, by omega, by omega, q⟩
      simpa using this
    rw [this, List.append_nil, List.nil_append]
/-- Nothing but what lies in a part is changed, and it stays in it. -/
def Rng (d d' : Array α) (a b : Nat) : Prop := d'.size = d.size ∧ (∀ p, p < a ∨ b ≤ p → d'[p]! = d[p]!) ∧ ∀ p, a ≤ p → p < b → ∃ q, a ≤ q ∧ q < b ∧ d'[p]! = d[q]!
theorem Rng.refl (d : Array α) (a b : Nat) : Rng d d a b := ⟨rfl, fun _ _ => rfl, fun p h1 h2 => ⟨p, h1, h2, rfl⟩⟩
theorem Rng.trans {d e f : Array α} {a b : Nat} (h : Rng d e a b) (g : Rng e f a b) : Rng d f a b := by
  refine ⟨g.1.trans h.1, fun p hp => (g.2.1 p hp).trans (h.2.1 p hp), fun p h1 h2 => ?_⟩
  obtain ⟨q, q1, q2, q3⟩ := g.2.2 p h1 h2
  obtain ⟨r, r1, r2, r3⟩ := h.2.2 q q1 q2
  exact ⟨r, r1, r2, q3.trans r3⟩
theorem Rng.mono {d e : Array α} {a b a' b' : Nat} (h : Rng d e a b) (ha : a' ≤ a) (hb : b ≤ b') : Rng d e a' b' := by
  refine ⟨h.1, fun p hp => h.2.1 p (by omega), fun p h1 h2 => ?_⟩
  by_cases hp : a ≤ p ∧ p < b
  · obtain ⟨q, q1, q2, q3⟩ := h.2.2 p hp.1 hp.2
    exact ⟨q, by omega, by omega, q3⟩
  · exact ⟨p, h1, h2, h.2.1 p (by omega)⟩
theorem Rot.rng {d d' : Array α} {a m b : Nat} (h : Rot d d' a m b) : Rng d d' a b := by
  have h1 := h.am
  have h2 := h.mb
  refine ⟨h.size, h.out, fun p p1 p2 => ?_⟩
  by_cases hp : p < a + (b - m)
  · refine ⟨m + (p - a), by omega, by omega, ?_⟩
    rw [← h.low (p - a) (by omega), show a + (p - a) = p by omega]
  · refine ⟨a + (p - (a + (b - m))), by omega, by omega, ?_⟩
    rw [← h.high (p - (a + (b - m))) (by omega), show a + (b - m) + (p - (a + (b - m))) = p by omega]
theorem Rot.self (d : Array α) (a : Nat) (ha : a ≤ d.size) : Rot d d a a a := ⟨rfl, Nat.le_refl _, Nat.le_refl _, ha, fun _ _ => rfl, fun t ht => by omega, fun t ht => by omega⟩
/-- One step of moving the element a up. -/
theorem Rot.up {d e : Array α} {a k : Nat} (h : Rot d e a (a + 1) k) (hk : k < d.size) (hak : a < k) : Rot d (swp e (k - 1) k) a (a + 1) (k + 1) := by
  have hs := h.size
  have g := swp_get e (i := k - 1) (j := k) (by omega) (by omega)
  refine ⟨by rw [swp_size, hs], by omega, by omega, by omega, fun p hp => ?_, fun t ht => ?_, fun t ht => ?_⟩
  · rw [g, if_neg (by omega), if_neg (by omega)]
    exact h.out p (by omega)
  · rw [g, if_neg (by omega)]
    by_cases h1 : a + t = k - 1
    · rw [if_pos h1, h.out k (by omega), show a + 1 + t = k by omega]
    · rw [if_neg h1]
      exact h.low t (by omega)
  · rw [g, if_pos (by omega)]
    have := h.high 0 (by omega)
    rw [show a + (k - (a + 1)) + 0 = k - 1 by omega] at this
    rw [this, show a + t = a + 0 by omega]
/-- One step of moving the element m down. -/
theorem Rot.down {d e : Array α} {k m : Nat} (h : Rot d e k m (m + 1)) (hk : 0 < k) : Rot d (swp e k (k - 1)) (k - 1) m (m + 1) := by
  have hs := h.size
  have h1 := h.am
  have h2 := h.bn
  have g := swp_get e (i := k) (j := k - 1) (by omega) (by omega)
  refine ⟨by rw [swp_size, hs], by omega, by omega, by omega, fun p hp => ?_, fun t ht => ?_, fun t ht => ?_⟩
  · rw [g, if_neg (by omega), if_neg (by omega)]
    exact h.out p (by omega)
  · rw [g, if_pos (by omega)]
    have := h.low 0 (by omega)
    rw [Nat.add_zero] at this
    rw [this, show m + t = m + 0 by omega]
  · rw [g, if_neg (by omega)]
    by_cases e1 : k - 1 + (m + 1 - m) + t = k
    · rw [if_pos e1, h.out (k - 1) (by omega), show k - 1 + t = k - 1 by omega]
    · rw [if_neg e1]
      have := h.high (t - 1) (by omega)
      rw [show k + (m + 1 - m) + (t - 1) = k - 1 + (m + 1 - m) + t by omega] at this
      rw [this, show k + (t - 1) = k - 1 + t by omega]
/-- Two parts of the same length exchanged, as far as the first i of them. -/
structure Swr (d d' : Array α) (a b i : Nat) : Prop where
  size : d'.size = d.size
  left : ∀ t, t < i → d'[a + t]! = d[b + t]!
  right : ∀ t, t < i → d'[b + t]! = d[a + t]!
  out : ∀ p, (p < a ∨ a + i ≤ p) → (p < b ∨ b + i ≤ p) → d'[p]! = d[p]!
theorem Swr.zero (d : Array α) (a b : Nat) : Swr d d a b 0 := ⟨rfl, fun t ht => by omega, fun t ht => by omega, fun _ _ _ => rfl⟩
theorem Swr.step {d e : Array α} {a b n i : Nat} (h : Swr d e a b i) (hi : i < n) (hab : a + n ≤ b) (hb : b + n ≤ d.size) : Swr d (swp e (a + i) (b + i)) a b (i + 1) := by
  have hs := h.size
  have g := swp_get e (i := a + i) (j := b + i) (by omega) (by omega)
  refine ⟨by rw [swp_size, hs], fun t ht => ?_, fun t ht => ?_, fun p h1 h2 => ?_⟩
  · rw [g, if_neg (by omega)]
    by_cases e1 : t = i
    · subst e1
      rw [if_pos rfl, h.out _ (by omega) (by omega)]
    · rw [if_neg (by omega)]
      exact h.left t (by omega)
  · rw [g]
    by_cases e1 : t = i
    · subst e1
      rw [if_pos rfl, h.out _ (by omega) (by omega)]
    · rw [if_neg (by omega), if_neg (by omega)]
      exact h.right t (by omega)
  · rw [g, if_neg (by omega), if_neg (by omega)]
    exact h.out p (by omega) (by omega)
/-- What is left of a rotation: the part of i elements before m and that of j elements behind it are still to change places. -/
structure Rst (d e : Array α) (a m b i j : Nat) : Prop where
  size : e.size = d.size
  am : a + i ≤ m
  mb : m + j ≤ b
  bn : b ≤ d.size
  goal : ∀ d', Rot e d' (m - i) m (m + j) → Rot d d' a m b
theorem Rst.start (d : Array α) {a m b : Nat} (am : a ≤ m) (mb : m ≤ b) (bn : b ≤ d.size) : Rst d d a m b (m - a) (b - m) :=
  ⟨rfl, by omega, by omega, bn, fun d' h => by rw [show m - (m - a) = a by omega, show m + (b - m) = b by omega] at h; exact h⟩
theorem Rst.left {d e f : Array α} {a m b i j : Nat} (h : Rst d e a m b i j) (hij : j < i) (s : Swr e f (m - i) m j) : Rst d f a m b (i - j) j := by
  have h1 := h.am
  have h2 := h.mb
  have h3 := h.bn
  have h4 := h.size
  refine ⟨s.size.trans h4, by omega, h2, h3, fun d' r => h.goal d' ⟨by rw [r.size, s.size], by omega, by omega, by omega, fun p hp => ?_, fun t ht => ?_, fun t ht => ?_⟩⟩
  · rw [r.out p (by omega), s.out p (by omega) (by omega)]
  · rw [r.out _ (by omega), s.left t (by omega)]
  · by_cases c : t < j
    · have := r.low t (by omega)
      rw [show m - (i - j) + t = m - i + (m + j - m) + t by omega] at this
      rw [this, s.right t c]
    · have := r.high (t - j) (by omega)
      rw [show m - (i - j) + (m + j - m) + (t - j) = m - i + (m + j - m) + t by omega] at this
      rw [this, s.out _ (by omega) (by omega), show m - (i - j) + (t - j) = m - i + t by omega]
theorem Rst.right {d e f : Array α} {a m b i j : Nat} (h : Rst d e a m b i j) (hij : i < j) (s : Swr e f (m - i) (m + j - i) i) : Rst d f a m b i (j - i) := by
  have h1 := h.am
  have h2 := h.mb
  have h3 := h.bn
  have h4 := h.size
  refine ⟨s.size.trans h4, h1, by omega, h3, fun d' r => h.goal d' ⟨by rw [r.size, s.size], by omega, by omega, by omega, fun p hp => ?_, fun t ht => ?_, fun t ht => ?_⟩⟩
  · rw [r.out p (by omega), s.out p (by omega) (by omega)]
  · by_cases c : t < j - i
    · rw [r.low t (by omega), s.out _ (by omega) (by omega)]
    · have := r.high (t - (j - i)) (by omega)
      rw [show m - i + (m + (j - i) - m) + (t - (j - i)) = m - i + t by omega] at this
      rw [this, s.left _ (by omega), show m + j - i + (t - (j - i)) = m + t by omega]
  · have := s.right t (by omega)
    rw [show m - i + (m + j - m) + t = m + j - i + t by omega]
    rw [r.out _ (by omega), this]
theorem Rst.last {d e f : Array α} {a m b i : Nat} (h : Rst d e a m b i i) (s : Swr e f (m - i) m i) : Rot d f a m b := by
  have h1 := h.am
  have h2 := h.mb
  have h3 := h.bn
  have h4 := h.size
  refine h.goal f ⟨s.size, by omega, by omega, by omega, fun p hp => s.out p (by omega) (by omega), fun t ht => s.left t (by omega), fun t ht => ?_⟩
  rw [show m - i + (m + i - m) + t = m + t by omega]
  exact s.right t (by omega)

/-! ### Sorted parts -/
theorem sorted_mono {d : Array α} {a b a' b' : Nat} (h : SortedIn lt a b d) (ha : a ≤ a') (hb : b' ≤ b) : SortedIn lt a' b' d := fun i j h1 h2 h3 => h i j (by omega) h2 (by omega)
theorem sorted_le (hO : SWO lt) {d : Array α} {a b : Nat} (h : SortedIn lt a b d) {i j : Nat} (h1 : a ≤ i) (h2 : i ≤ j) (h3 : j < b) : lt d[j]! d[i]! = false := by
  by_cases e : i = j
  · subst e; exact hO.irrefl _
  · exact h i j h1 (by omega) h3
theorem sorted_out {d e : Array α} {a b : Nat} (h : SortedIn lt a b d) (he : ∀ p, a ≤ p → p < b → e[p]! = d[p]!) : SortedIn lt a b e := fun i j h1 h2 h3 => by
  rw [he j (by omega) h3, he i h1 (by omega)]
  exact h i j h1 h2 h3
/-- Two sorted parts, nothing in the second less than anything in the first. -/
theorem sorted_join (hO : SWO lt) {d : Array α} {a m b : Nat} (h1 : SortedIn lt a m d) (h2 : SortedIn lt m b d) (h3 : ∀ p q, a ≤ p → p < m → m ≤ q → q < b → lt d[q]! d[p]! = false) : SortedIn lt a b d := by
  intro i j q1 q2 q3
  by_cases c1 : j < m
  · exact h1 i j q1 q2 c1
  · by_cases c2 : m ≤ i
    · exact h2 i j c2 q2 q3
    · exact h3 i j q1 (by omega) (by omega) q3
/-- Moving the element a up to the place before i: behind it all is as great, before it less. -/
theorem up_sorted (hO : SWO lt) {d d' : Array α} {a b i : Nat} (r : Rot d d' a (a + 1) i) (hs : SortedIn lt (a + 1) b d) (hi : i ≤ b) (h1 : ∀ p, a + 1 ≤ p → p < i → lt d[p]! d[a]! = true) (h2 : ∀ p, i ≤ p → p < b → lt d[p]! d[a]! = false) : SortedIn lt a b d' := by
  have e1 : ∀ p, a ≤ p → p + 1 < i → d'[p]! = d[p + 1]! := fun p h3 h4 => by
    have := r.low (p - a) (by omega)
    rw [show a + (p - a) = p by omega, show a + 1 + (p - a) = p + 1 by omega] at this
    exact this
  have hm := r.mb
  have e2 : d'[i - 1]! = d[a]! := by
    have := r.high 0 (by omega)
    rw [show a + (i - (a + 1)) + 0 = i - 1 by omega] at this
    exact this
  have e3 : ∀ p, i ≤ p → d'[p]! = d[p]! := fun p h3 => r.out p (Or.inr h3)
  intro x y q1 q2 q3
  by_cases c1 : y + 1 < i
  · rw [e1 x q1 (by omega), e1 y (by omega) c1]
    exact hs _ _ (by omega) (by omega) (by omega)
  · by_cases c2 : y + 1 = i
    · rw [show y = i - 1 by omega, e2, e1 x q1 (by omega)]
      exact hO.asymmA (h1 _ (by omega) (by omega))
    · rw [e3 y (by omega)]
      by_cases c3 : x + 1 < i
      · rw [e1 x q1 c3]
        exact hs _ _ (by omega) (by omega) q3
      · by_cases c4 : x + 1 = i
        · rw [show x = i - 1 by omega, e2]
          exact h2 y (by omega) q3
        · rw [e3 x (by omega)]
          exact hs _ _ (by omega) q2 q3
/-- Moving the element m down to the place i. -/
theorem down_sorted (hO : SWO lt) {d d' : Array α} {a m i : Nat} (r : Rot d d' i m (m + 1)) (hs : SortedIn lt a m d) (hi : a ≤ i) (h1 : ∀ p, a ≤ p → p < i → lt d[m]! d[p]! = false) (h2 : ∀ p, i ≤ p → p < m → lt d[m]! d[p]! = true) : SortedIn lt a (m + 1) d' := by
  have ham := r.am
  have e1 : ∀ p, p < i → d'[p]! = d[p]! := fun p h3 => r.out p (Or.inl h3)
  have e2 : d'[i]! = d[m]! := by simpa using r.low 0 (by omega)
  have e3 : ∀ p, i < p → p ≤ m → d'[p]! = d[p - 1]! := fun p h3 h4 => by
    have := r.high (p - i - 1) (by omega)
    rw [show i + (m + 1 - m) + (p - i - 1) = p by omega, show i + (p - i - 1) = p - 1 by omega] at this
    exact this
  intro x y q1 q2 q3
  by_cases c1 : y < i
  · rw [e1 y c1, e1 x (by omega)]
    exact hs _ _ q1 q2 (by omega)
  · by_cases c2 : y = i
    · rw [c2, e2, e1 x (by omega)]
      exact h1 x q1 (by omega)
    · rw [e3 y (by omega) (by omega)]
      by_cases c3 : x < i
      · rw [e1 x c3]
        exact hs _ _ q1 (by omega) (by omega)
      · by_cases c4 : x = i
        · rw [c4, e2]
          exact hO.asymmA (h2 _ (by omega) (by omega))
        · rw [e3 x (by omega) (by omega)]
          exact hs _ _ (by omega) (by omega) (by omega)
/-- The middle of a merge. -/
structure Mid (lt : α → α → Bool) (d e : Array α) (a mid s t b : Nat) : Prop where
  rng : Rng d e a b
  l1 : SortedIn lt a s e
  l2 : SortedIn lt s mid e
  r1 : SortedIn lt mid t e
  r2 : SortedIn lt t b e
  lr : ∀ p q, a ≤ p → p < mid → mid ≤ q → q < b → lt e[q]! e[p]! = false
theorem mid_of (hO : SWO lt) {d e : Array α} {a m b mid s t : Nat} (h1 : SortedIn lt a m d) (h2 : SortedIn lt m b d) (hn : s + t = mid + m) (has : a ≤ s) (hsm : s ≤ m) (hmt : m ≤ t) (htb : t ≤ b) (r : Rot d e s m t)
    (hlo : a < s → t < b → lt d[t]! d[s - 1]! = false) (hhi : s < m → m < t → lt d[t - 1]! d[s]! = true) :
    Mid lt d e a mid s t b ∧ ∀ u v, s ≤ u → u < m → m ≤ v → v < t → lt d[v]! d[u]! = true := by
  have hst : ∀ u v, s ≤ u → u < m → m ≤ v → v < t → lt d[v]! d[u]! = true := fun u v q1 q2 q3 q4 =>
    lt_mid hO (sorted_le hO h2 (i := v) (j := t - 1) (by omega) (by omega) (by omega)) (hhi (by omega) (by omega)) (sorted_le hO h1 (i := s) (j := u) (by omega) (by omega) (by omega))
  have elo : ∀ p, s ≤ p → p < mid → e[p]! = d[m + (p - s)]! := fun p q1 q2 => by
    have := r.low (p - s) (by omega)
    rw [show s + (p - s) = p by omega] at this
    exact this
  have ehi : ∀ p, mid ≤ p → p < t → e[p]! = d[s + (p - mid)]! := fun p q1 q2 => by
    have := r.high (p - mid) (by omega)
    rw [show s + (t - m) + (p - mid) = p by omega] at this
    exact this
  refine ⟨⟨r.rng.mono has htb, sorted_out (sorted_mono h1 (Nat.le_refl _) hsm) fun p q1 q2 => r.out p (Or.inl q2), fun i j q1 q2 q3 => ?_, fun i j q1 q2 q3 => ?_, sorted_out (sorted_mono h2 hmt (Nat.le_refl _)) fun p q1 q2 => r.out p (Or.inr q1), fun p q p1 p2 q1 q2 => ?_⟩, hst⟩
  · rw [elo i q1 (by omega), elo j (by omega) q3]
    exact h2 _ _ (by omega) (by omega) (by omega)
  · rw [ehi i q1 (by omega), ehi j (by omega) q3]
    exact h1 _ _ (by omega) (by omega) (by omega)
  · by_cases cp : p < s
    · rw [r.out p (Or.inl cp)]
      by_cases cq : q < t
      · rw [ehi q q1 cq]
        exact sorted_le hO h1 (by omega) (by omega) (by omega)
      · rw [r.out q (Or.inr (by omega))]
        refine le_trans3 hO (le_trans3 hO (sorted_le hO h1 (i := p) (j := s - 1) (by omega) (by omega) (by omega)) (hlo (by omega) (by omega))) (sorted_le hO h2 (i := t) (j := q) (by omega) (by omega) (by omega))
    · rw [elo p (by omega) p2]
      by_cases cq : q < t
      · rw [ehi q q1 cq]
        exact hO.asymmA (hst _ _ (by omega) (by omega) (by omega) (by omega))
      · rw [r.out q (Or.inr (by omega))]
        exact sorted_le hO h2 (by omega) (by omega) (by omega)
theorem Mid.done (hO : SWO lt) {d e f g : Array α} {a mid s t b : Nat} (h : Mid lt d e a mid s t b) (ham : a ≤ mid) (hmb : mid ≤ b) (hl : Rng e f a mid) (hls : SortedIn lt a mid f) (hr : Rng f g mid b) (hrs : SortedIn lt mid b g) : Rng d g a b ∧ SortedIn lt a b g := by
  refine ⟨(h.rng.trans (hl.mono (Nat.le_refl _) hmb)).trans (hr.mono ham (Nat.le_refl _)), sorted_join hO (sorted_out hls fun p q1 q2 => hr.2.1 p (Or.inl q2)) hrs fun p q p1 p2 q1 q2 => ?_⟩
  obtain ⟨x, x1, x2, x3⟩ := hl.2.2 p p1 p2
  obtain ⟨y, y1, y2, y3⟩ := hr.2.2 q q1 q2
  rw [hr.2.1 p (Or.inl p2), x3, y3, hl.2.1 y (Or.inr y1)]
  exact h.lr x y x1 x2 y1 y2
/-- An insertion keeps the order among the same names. -/
theorem insInner_stb (hc : ∀ x y, lt x y = true → cls x ≠ cls y) (a : Nat) : ∀ (j : Nat) (d : Array α), j < d.size → Stb cls d (insInner lt a j d)
  | 0, d, _ => by rw [insInner]; exact Stb.refl cls d
  | j + 1, d, hj => by
    rw [insInner]
    split
    · rename_i h
      simp only [Bool.and_eq_true, decide_eq_true_eq] at h
      have r : Rot d (swp d (j + 1) j) j (j + 1) (j + 1 + 1) := by
        have g := swp_get d (i := j + 1) (j := j) hj (by omega)
        refine ⟨swp_size _ _ _, by omega, by omega, by omega, fun p hp => by rw [g, if_neg (by omega), if_neg (by omega)], fun t ht => ?_, fun t ht => ?_⟩
        · rw [g, if_pos (by omega), show j + 1 + t = j + 1 by omega]
        · rw [g, if_neg (by omega), if_pos (by omega), show j + t = j by omega]
      refine Stb.trans (r.stb hc fun u v q1 q2 q3 q4 => ?_) (insInner_stb hc a j _ (by rw [swp_size]; omega))
      rw [show u = j by omega, show v = j + 1 by omega]
      exact h.2
    · exact Stb.refl cls d
theorem insOuter_stb (hc : ∀ x y, lt x y = true → cls x ≠ cls y) (a b : Nat) : ∀ (n i : Nat) (d : Array α), b - i ≤ n → b ≤ d.size → Stb cls d (insOuter lt a b i d)
  | 0, i, d, hn, hb => by rw [insOuter, if_neg (by omega)]; exact Stb.refl cls d
  | n + 1, i, d, hn, hb => by
    rw [insOuter]
    split
    · have h1 := insInner_stb (lt := lt) hc a i d (by omega)
      exact h1.trans (insOuter_stb hc a b n (i + 1) _ (by omega) (by rw [h1.1]; exact hb))
    · exact Stb.refl cls d
theorem insertionSort_stb (hc : ∀ x y, lt x y = true → cls x ≠ cls y) (d : Array α) (a b : Nat) (hb : b ≤ d.size) : Stb cls d (insertionSort lt d a b) := insOuter_stb hc a b _ _ d (Nat.le_refl _) hb
end
end Go.Proofs.YtclnoblcdaimiaaDoor
